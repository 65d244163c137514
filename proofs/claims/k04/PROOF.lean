import PyProof.Rows.All
import Wide.All
import OpenK.AllK
import Wide.FinOn
import Lean
import PyProof.EqAt
import PyProof.EqKinds
import PyProof.TupleCall
import PySem.Challenge.RW_stepledger_k04_no_roll
open Option renaming some->Ya,none->Yi,isSome_iff_exists->Fx,ne_none_iff_exists'->Tq,map_eq_some_iff->Tr,isSome_some->Tt,getD_none->Tu,bind_some->Tv
open PySem.W renaming Frag->Yb,subIn->Ye,kitAny->Yf,findIn->Yr,mroIn->eX,clsIn->iY,kia_one->kZ,hideAll_get->sy,emptyDict->uI,exmOne->pW,mg_none_of->mR,typeIn->sE,specialIn->wL,fnOf->pY,keepIn->uJ,instObj->wM,nsIn->dJ,of_hideAll->Fy,mg_of->jP,codeIn->BK,hideAll->Fz,readsIn->FJ,findCls->FN,methodObj->KZ,cellsFrom_some->Tw,funFrames_hide->Tz,takesIn->K1,hideAll_none->TF,lookIn->K3,kitOne->K4,kitx_tuple->TJ,callWith_K->TV,kitx_none->TX,kitx_list->TY,kitx_dict->T3,plainGet->T4,Frag->uK,WalkO->T5,mg_of->T6,codeIn->K5,keepIn->K6
open PySem renaming wpAny_bind->Yc,Value->Yd,Shared->Yg,starEach->Yk,Addr->Yl,wpAny_pure->Ym,Program->Yz,wpAny->Y1,mainGlobals->Y2,sizeLine->Y6,model->Y9,Around->aU,wpAny_holding->fP,World->aD,wpAny_mono->dw,bootBuiltins->fQ,wpAny_field->fU,wpAny_callSpecial?_slot->uM,strLen_append->jr,backTo->bI,mem_of_lookup->sG,Heap->ao,sizeLine_eq->iy,excClassObj->iz,compareOp->fB,keywordEach->jt,codeAny_call_builtin->wN,wpAny_newObj_type->uN,FuncData->fC,wpAny_call_entry->uO,eval->aA,wpAny_standAt->pZ,wpAny_pyIter_list->wO,foldedSetIterable->wQ,attributeBase->sH,wpAny_Call_Name_kw->yM,wpAny_setField_rec->yN,wpAny_seqItems->uP,binaryOp->iB,wpAny_loadPart'->FQ,wpAny_loadPart_at->yO,codeAny_mono->sI,treeTable->k_,assignEach->oA,backToKw->ju,Stmt->Ydr,importedModules->yP,wpAny_truthy_bool->BP,wpAny_call->p6,IsPair->eY,checkBuiltinCall->BR,letOwnedTupleGo->BV,wpAny_passesOwn->BW,wpAny_attempt->yQ,sysModules->uQ,sliceBounds->Yes,slicePicked->wR,plainObj_wpAny_Assign_Attribute->T7,wpAny_setField->BX,swapsWith->sJ,wpAny_updateSeq_pair->K7,wpAny_onRaise->BZ,wpAny_execs_nil->FT,rawInt->iZ,codeAny->mU,getItem->mV,wpAny_point->yR,getAttrByItsOwn->FW,wpAny_FormattedValue_plain->T8,wpAny_keeperOf_exc->K8,intText?->FZ,boundAndCalled->F_,cLine->fV,wpAny_sequenceKey->K9,typeIs_str->yS,wpAny_comprehension_free->T9,wpAny_Call_ofName->K_,behindInMarks->Ga,assign->lw,noFill_tuple_add->La,wpAny_storeName_local->T_,holding->sO,wpAny_typeOf->Gb,wpAny_nextOf_list_end->Ua,wpAny_JoinedStr->Lb,wpAny_formatField_int->Ub,isInstance->B_,unbindBehindTheSuite->Uc,pyNext->oE,nsFind->oF,wpAny_loadPart->Ld,subscripted->Gd,callerA->uR,IsZip->i_,wpAny_isSubtype_exc->Ud,wpAny_pyIter_tuple->Ue,seq_tuple_add->Le,noteFrame->Ca,callWith->yU,wpAny_assign_Name->Ug,call_meets->Ge,valueAt->wU,relabel->wV,wpAny_rule->Gf,wpAny_pyIter_enum->Uh,Result->sS,concat_meets->Lf,seqIndex_neg->Lg,wpAny_mkText->Lh,wpAny_pyHash_str->Ui,wpAny_execs_cons->Uj,callGetattribute->Uk,wpAny_isInstance->Ul,wpAny_pyIter_zip->Um,tupleKind->Gg,standAt->yV,BindsTo->yW,seqIndex_of->Li,strValues->Gh,codeAny_builtin->Uo,codeAny_of_tree->Uq,wpAny_letGo->Lj,builtinsNs->Lk,wpAny_Name->Ln,typeLookup->Lp,call->Lq,compEnvC->Gi,pyIter->yX,PassesOwn->Lr,cellsFrom->Ls,atKey->sU,field->sV,spliced->Gj,unaryOp->Gk,bindL->uT,bindC->uU,leaving->Gm,dictGet->Gn,Str->aj,Tok->dX,Obj->aq,Env->b7,Sem->lF,Pos->aF
open PySem.Heap renaming get?_push_of_some->Yh,get?_push_size->Yu,lt_size->Yv,get?_update_other->wW,get?_update_self->yZ,size_push->uV,get?_none_of_le->Cd,SameBut->y_,get?_push_at->Lw,get?_push_cases->Ur,get?_update_ne->Us
open List renaming getElem?_eq_some_iff->Yj,length_map->Yn,size_toArray->Yo,replicate->Yt,mem_cons_of_mem->Yx,map_cons->Yy,mem_cons_self->Y0,length_append->Y4,mem_cons->Y5,getElem?_append_left->Y7,prefix_append->Y8,getElem?_map->gn,getElem?_cons_zero->jQ,getElem?_eq_getElem->lG,getElem?_set_self->jR,getElem?_set_ne->jw,lookup_cons->gH,length_cons->iC,mem_append_right->mW,append_nil->gW,length_singleton->mX,all_eq_true->jT,append_assoc->lH,getElem?_cons_succ->sW,getElem?_append_right->wX,map_append->lJ,mem_map->jb,mem_append_left->uW,mem_of_getElem?->uX,eq_nil_of_length_eq_zero->Ce,all_cons->mY,length_take->sX,getElem_mem->sY,drop_eq_getElem_cons->Cg,range->jx,mem_singleton->wY,not_mem_nil->uY,any_cons->p7,dropLast_concat_getLast->Gp,mem_append->u0,getElem?_of_mem->Ci,getElem?_take_of_lt->Gq,length_nil->wZ,map_nil->sZ,map_map->tu,getElem?_replicate->Gr,take_of_length_le->Gs,length->tD,find?_cons->za,drop_length->Cj,prefix_refl->Ck,map_eq_nil_iff->Gu,mem_filterMap->Gv,Nodup->u5,set_set->zb,length_drop->Gw,filterMap_cons->Lx,nodup_cons->Gx,of_mem_zip->Gy,map_congr_left->Ly,nil_append->Gz,mem_map_of_mem->Lz,mem_range->GC,ext_getElem?->LC,prefix_iff_eq_take->Ut,getElem?_set_self'->Uu,filter_cons_of_pos->Uv,filter_cons_of_neg->Uw,range_succ_eq_map->Ux,drop_eq_nil_of_le->Uy,length_replicate->Uz,length_set->LK,set_append_right->UG,all_map->GD,forIn_cons->LQ,singleton_append->UJ,replicate_succ->UL,set_cons_succ->UT,set_cons_zero->UV,getElem_range->UW,contains_cons->U0,take_sublist->U3,reverse_cons->U4,flatten_cons->U5,length_range->U6,take_add_one->U7,getElem_inj->U8,zipIdx_cons->U9,any_eq_true->U_,take_length->Va,mem_filter->Vb,zipIdx_nil->Vc,isPrefixOf->Vd,drop_zero->Ve,forIn_nil->Vf
open Classical renaming propDecidable->Yp,axiomOfChoice->Vg
open Nat renaming le_refl->Yq,le_trans->Ys,lt_of_lt_of_le->Yw,le_antisymm->eZ,ne_of_lt->dM,le_of_not_lt->jc,sub_add_cancel->p8,le_add_right->p_,le_of_ble_eq_true->w5,zero_le->jy,eq_of_beq_eq_true->zc,zero_add->qd,beq->fD,lt_trans->tE,lt_irrefl->u6,ble->iD,add_le_add_right->GF,min_le_right->Cm,le_of_eq->w6,lt_of_le_of_lt->GJ,lt_of_not_le->GK,succ_le_succ->GP,ne_of_gt->Cp,toDigits_of_lt_base->Vh,min_eq_right->LR,min_eq_left->L_,sub_eq_zero_of_le->Vi,toDigits->GQ,strongRecOn->Ma,mul_div_le->Mf,mul_le_mul_left->Vj,sub_le->GX,le_of_lt->Mg,zero_lt_one->Vk,le_add_left->Vl,toList_repr->Vm,add_le_add->Vn
open Option.some renaming inj->Y3
open Bool renaming and_eq_true->gq,and_eq_true_iff->Yaw,false_ne_true->oG,false_eq_true->Cq,beq_eq_decide_eq->GZ,and_self->zf,eq_iff_iff->G4,or_eq_true->Mh,false_and->Mi,true_and->Mj,and_false->Vo,or_false->Vp,false_or->Vq,and_true->Vr
open PySem.Builtin.SmallTypes renaming nextOf->qe,ownedTupleIsFree->G5,ownedTupleHandOut->Vs
open False renaming elim->dg
open PySem.Str renaming ofString->jd,length->oH,empty->mZ
open PySem.F renaming excBase_ValueError->zj,args_tuple_add_2->Ml,entry_tuple_add->Mm,slot_tuple_add->Mp,plainAttrs_str->Mq,slot_zip_next->G6,args_str_split_2->Mr,slot_dict_getitem->Vt,entry_str_split->Ms,slot_str_split->Mt,slot_dict_get->Vu,slot_enumerate_next->Vv,args_zip_next_1->Vw,entry_zip_next->Vx,entry_bexc_ga->Vy,args_bexc_ga->Vz
open Ne renaming symm->cP
open Int renaming toNat_of_nonneg->u9,natCast_nonneg->xg,natAbs_natCast->Cr,toNat_natCast->G7,self_le_toNat->G8,add_zero->zm,ofNat_le->Cu,zero_add->Cv,emod_lt_of_pos->Mu,not_le->zp,lt_mul_ediv_self_add->VB,le_of_eq->G9,natCast_add->Mv,mul_zero->G_,ofNat_lt->Hf,emod_nonneg->Mw,le_of_lt->Mx,sub_zero->Mz,min_eq_left->VD,mul_add->MF,natCast_mul->VF,add_le_add->VG,not_lt->MJ
open PySem.Builtin.Str renaming occurrences->zq,strSliceIndices->Hg,partsBetween->VH,strKind->VJ
open PyProof.Rows renaming slot_tuple_getitem->Hh,callWith_type1->MK,slot_tupleiter_next->Hi,callWith_builtin1->VL,signs_ofString->VN,envOfC->jz,kindOf->jU,AllBare->qi,subscriptTail_builtinR->VP,entry_tupleiter_next->VR,entry_tuple_getitem->V0,args_tupleiter_next->V1,args_tuple_getitem->V2,subscriptTail->MN,Subscript_->MP
open List.cons renaming inj->oJ,injEq->V3
open PySem.Calls renaming evalArgs_plain->zr,Name_function_global->V4,callWith_builtin->V5,spliced_cons->V6,spliced_nil->V7
open PySem.NumText renaming digitsVal->Cw
open Array renaming getElem?_eq_some_iff->Hj,getElem?_setIfInBounds_ne->V8,length_toList->MT,toList->Cy,mem_toList_iff->V9,append_assoc->V_
open PySem.Builtin.Slice renaming slicePlaces->Hl,sliceAdjust->M6,sliceApplied->Wa
open PySem.Builtin.Tuple renaming tupleExact->Ho,tupleItemsOf->Wb
open PyProof.Rows.KTD renaming datumAt->qj,TabOf->zu
open PySem.Obj renaming data_mapFields->Cz,mapFields->xj,isFreed_of_fields->M7,mapSeq->CJ,cls_mapFields->Wc
open Decidable renaming byContradiction->M8
open PySem.Code renaming quiet_builtin->Hq,isFrame->M_
open PySem.SeqAt renaming EqAt->u_
open ToString renaming toString->ql
open PySem.SeqAt.EqAt renaming int_str->Nb,str_int->Nf,same->Ng,none_bool->Wd,bool_none->Wf,bool_bool->Wg,none_int->Wh,none_str->Wi,bool_int->Wj,bool_str->Wk,int_none->Wl,int_bool->Wm,str_none->Wn,str_bool->Wo,int_int->Wq,str_str->Wr
open PySem.PassesOwn renaming leaving->Nh,never->Ws
open OfNat renaming ofNat->CK
open Eq renaming trans->vd
open PySem.Around renaming under->Hr
open PySem.Heap.SameBut renaming update->Wt
open PySem.EntryCells renaming newEntry->Wu
open PySem.Heap.Ns1 renaming of_empty->Wv
open PySem.SeqAt.RcAt renaming tuples->Ww
open PySem.StrLaws renaming found_one->Wx
open Nat.succ renaming inj->Ni
open PySem.Txt renaming split->Wy,startswith->Wz
open PySem.Shared renaming heap->Nj
open Char renaming toNat->Nk
open PySem.Value renaming isStrOf->WD
open PySem.Paired renaming length->WK
open Min renaming min->fG
namespace L3
set_option compiler.extract_closed false
set_option genSizeOf false in
set_option genInjectivity false in
inductive AE where
 |v (i:Nat)
 |k (n:Nat)
 |a (x y:AE)
 |m (n:Nat) (x:AE)
noncomputable def Hs:List Nat->Nat->Nat
 |[],_=>0|x::_,0=>x|_::l,n+1=>Hs l n
noncomputable def AE.ev(c:List Nat):AE->Nat
 | .v i=>Hs c i|.k n=>n|.a x y=>x.ev c+y.ev c|.m n x=>n*x.ev c
noncomputable def aL:List Nat->List Nat->List Nat
 |[],r=>r|x::l,[]=>x::l|x::l,y::r=>(x+y)::aL l r
noncomputable def sL(n:Nat):List Nat->List Nat
 |[]=>[]|x::l=>(n*x)::sL n l
noncomputable def uL:Nat->List Nat
 |0=>[1]|n+1=>0::uL n
noncomputable def AE.li:AE->List Nat
 | .v i=>0::uL i|.k n=>[n]|.a x y=>aL x.li y.li|.m n x=>sL n x.li
noncomputable def dt:List Nat->List Nat->Nat
 |x::c,y::l=>x*y+dt c l|[],_=>0|_,[]=>0
noncomputable def xq:List Nat->List Nat->Bool
 |[],_=>true|x::l,[]=>iD x 0&&xq l []|x::l,y::r=>iD x y&&xq l r
theorem m_:∀c,dt c []=0
 |[]=>rfl|_::_=>rfl
theorem qm:∀c l r,dt c (aL l r)=dt c l+dt c r
 |c,[],r=>by rw[m_,qd];rfl|c,x::l,[]=>by rw[m_];rfl|[],x::l,y::r=>rfl|z::c,x::l,y::r=>by show z*(x+y)+dt c (aL l r)=_;rw[qm c l r,Nat.mul_add];exact Nat.add_add_add_comm _ _ _ _
theorem CN(n:Nat):∀c l,dt c (sL n l)=n*dt c l
 |c,[]=>by rw[m_];exact m_ c|[],x::l=>rfl|z::c,x::l=>by show z*(n*x)+dt c (sL n l)=n*(z*x+dt c l);rw[CN n c l,Nat.mul_add,Nat.mul_left_comm]
theorem WL:∀c i,dt c (uL i)=Hs c i
 |[],0=>rfl|[],_+1=>rfl|x::c,0=>by show x*1+dt c []=x;rw[m_,Nat.mul_one];rfl|x::c,n+1=>by show x*0+dt c (uL n)=Hs c n;rw[WL c n,Nat.mul_zero,qd]
theorem zx:∀c l r,xq l r=true->dt c l<=dt c r
 |c,[],r,_=>by rw[m_];exact jy _|[],x::l,r,_=>jy _|z::c,x::l,[],h=>by have h:=(gq _ _).mp h;have e:x=0:=Nat.le_zero.1 (w5 h.1);have i:=zx c l [] h.2;rw[m_]at i;show z*x+dt c l<=0;rw[e,Nat.le_zero.1 i];exact Yq 0|z::c,x::l,y::r,h=>
  have h:=(gq _ _).mp h
  Vn (Vj z (w5 h.1)) (zx c l r h.2)
theorem AE.c7(c:List Nat):∀e:AE,dt (1::c) e.li=e.ev c
 | .v i=>(qd _).trans (WL c i)|.k n=>by show 1*n+dt c []=n;rw[m_,Nat.one_mul];rfl|.a x y=>(qm _ _ _).trans (congr (congrArg _ (x.c7 c)) (y.c7 c))|.m n x=>(CN n _ _).trans (congrArg _ (x.c7 c))
noncomputable def bN:Nat->Nat->AE×Nat
 |0,s=>(.k 0,s)|f+1,s=>bif iD (s % 16) 9 then(.v (s % 16),s / 16)else bif fD (s % 16) 10 then(.k 1,s / 16)
  else bif fD (s % 16) 11 then(.k (s / 256 % 16^(s / 16 % 16)),s / 256 / 16^(s / 16 % 16))
  else bif fD (s % 16) 12 then(.a (bN f (s / 16)).1 (bN f (bN f (s / 16)).2).1,(bN f (bN f (s / 16)).2).2)
  else bif fD (s % 16) 13 then(.m (s / 16 % 256) (bN f (s / 4096)).1,(bN f (s / 4096)).2)
  else(.k 0,s / 16)
noncomputable def CP:Nat->Nat->Nat->Prop
 |0,x,y=>x<=y|1,x,y=>x<y|2,x,y=>x=y|3,x,y=>x=y
 |4,x,y=>¬x<=y|5,x,y=>¬x<y|_,_,_=>False
noncomputable def Nm:Nat->AE->AE->List Nat
 |0,x,_=>x.li|1,x,_=>aL [1] x.li|2,x,_=>x.li|4,_,y=>aL [1] y.li
 |_,_,y=>y.li
noncomputable def CQ:Nat->AE->AE->List Nat
 |0,_,y=>y.li|1,_,y=>y.li|2,_,y=>y.li|_,x,_=>x.li
noncomputable def tG(c:List Nat):Nat->Nat->Prop
 |0,s=>CP (s % 16) ((bN 9 (s / 16)).1.ev c) ((bN 9 (bN 9 (s / 16)).2).1.ev c)|n+1,s=>CP (s / 16 % 16) ((bN 9 (s / 256)).1.ev c) ((bN 9 (bN 9 (s / 256)).2).1.ev c)->tG c n (bN 9 (bN 9 (s / 256)).2).2
noncomputable def gN:Nat->AE->AE->List Nat->List Nat->Bool
 |0,x,y,L,R=>xq (aL R x.li) (aL L y.li)|1,x,y,L,R=>xq (aL [1] (aL R x.li)) (aL L y.li)|_,_,_,L,R=>xq (aL [1] R) L
noncomputable def tH:Nat->Nat->List Nat->List Nat->Bool
 |0,s,L,R=>gN (s % 16) (bN 9 (s / 16)).1 (bN 9 (bN 9 (s / 16)).2).1 L R|n+1,s,L,R=>tH n (bN 9 (bN 9 (s / 256)).2).2 (aL L (sL (s % 16) (Nm (s / 16 % 16) (bN 9 (s / 256)).1 (bN 9 (bN 9 (s / 256)).2).1))) (aL R (sL (s % 16) (CQ (s / 16 % 16) (bN 9 (s / 256)).1 (bN 9 (bN 9 (s / 256)).2).1)))
theorem CV(c l:List Nat):dt (1::c) (aL [1] l)=dt (1::c) l+1:=by rw[qm];show 1*1+dt c []+_=_;rw[m_];exact Nat.add_comm _ _
theorem WM(c:List Nat)(x y:AE):∀r,CP r (x.ev c) (y.ev c)->dt (1::c) (Nm r x y)<=dt (1::c) (CQ r x y)
 |0,h=>by show dt _ x.li<=dt _ y.li;rw[x.c7,y.c7];exact h|1,h=>by show dt _ (aL [1] x.li)<=dt _ y.li;rw[CV,x.c7,y.c7];exact h|2,h=>by show dt _ x.li<=dt _ y.li;rw[x.c7,y.c7];exact w6 h|3,h=>by show dt _ y.li<=dt _ x.li;rw[x.c7,y.c7];exact w6 h.symm
 |4,h=>by show dt _ (aL [1] y.li)<=dt _ x.li;rw[CV,x.c7,y.c7];exact GK h|5,h=>by show dt _ y.li<=dt _ x.li;rw[x.c7,y.c7];exact jc h|_+6,h=>h.elim
theorem Zti(c:List Nat)(x y:AE)(L R:List Nat)(h:dt (1::c) L<=dt (1::c) R):∀r,gN r x y L R=true->CP r (x.ev c) (y.ev c)
 |0,k=>by have e:=zx (1::c) _ _ k;rw[qm,qm,x.c7,y.c7]at e;exact Nat.le_of_add_le_add_left (Ys e (GF h _))|1,k=>by have e:=zx (1::c) _ _ k;rw[CV,qm,qm,x.c7,y.c7]at e;exact Nat.lt_of_add_lt_add_left (Ys e (GF h _))|r+2,k=>by have e:=zx (1::c) _ _ k;rw[CV]at e;exact absurd (Ys e h) (Nat.not_succ_le_self _)
variable{a b c:Nat}
theorem WN(c:List Nat):∀(n s:Nat) (L R:List Nat),dt (1::c) L<=dt (1::c) R->tH n s L R=true->tG c n s
 |0,s,L,R,h,k=>Zti c _ _ L R h _ k|n+1,s,L,R,h,k=>λg=>WN c n _ _ _ (by rw[qm,qm,CN,CN];exact Vn h (Vj _ (WM c _ _ _ g))) k
end L3
theorem lN(c:List Nat)(n s:Nat)(h:L3.tH n s [] []=true):L3.tG c n s:=L3.WN c n s [] [] (Yq _) h
theorem qp(a b:Nat):a<=a-b+b:=Nat.le_add_of_sub_le (Yq _)
theorem T1:true=true:=rfl
theorem lA(n s:Nat)(y:L3.tH n s [] []=true):L3.tG [a] n s:=lN _ n s y
theorem lB(n s:Nat)(y:L3.tH n s [] []=true):L3.tG [a,b] n s:=lN _ n s y
theorem lC(n s:Nat)(y:L3.tH n s [] []=true):L3.tG [a,b,c] n s:=lN _ n s y
theorem lD{d:Nat}(n s:Nat)(y:L3.tH n s [] []=true):L3.tG [a,b,c,d] n s:=lN _ n s y
theorem lE{d e:Nat}(n s:Nat)(y:L3.tH n s [] []=true):L3.tG [a,b,c,d,e] n s:=lN _ n s y
theorem lI{d e f g h i:Nat}(n s:Nat)(y:L3.tH n s [] []=true):L3.tG [a,b,c,d,e,f,g,h,i] n s:=lN _ n s y
theorem WP(w:Int):max w 0=(w.toNat:Int):=(Int.ofNat_toNat w).symm
theorem WQ(v:Int)(n:Nat)(h:¬v<0):fG v (n:Int)=((fG v.toNat n:Nat):Int):=by
 obtain⟨k,rfl⟩:=Int.eq_ofNat_of_zero_le (MJ.1 h);rcases Nat.le_total k n with z|z
 .rw[VD (Cu.2 z)];exact congrArg Int.ofNat (L_ z).symm
 .rw[Int.min_eq_right (Cu.2 z)];exact congrArg Int.ofNat (LR z).symm
theorem Np(v:Int)(n:Nat)(h:v<0):max 0 (fG (v+(n:Int)) (n:Int))=((v+(n:Int)).toNat:Int):=by rw[VD (Mx (Int.lt_of_lt_of_le (Int.add_lt_add_right h _) (G9 (Cv _)))),Int.max_comm];exact WP _
theorem Nq(v:Int)(n:Nat)(h:¬v<0):max 0 (fG v (n:Int))=((fG v.toNat n:Nat):Int):=by rw[WQ v n h];exact Int.max_eq_right (xg _)
namespace L3
set_option genSizeOf false in
set_option genInjectivity false in
inductive AI where
 |v (i:Nat)
 |k (n:Nat)
 |c (e:AE)
 |a (x y:AI)
 |s (x y:AI)
 |g (x:AI)
 |m (n:Nat) (x:AI)
noncomputable def CZ:List Int->Nat->Int
 |[],_=>0|x::_,0=>x|_::l,n+1=>CZ l n
noncomputable def AI.ev(c:List Nat)(d:List Int):AI->Int
 | .v i=>CZ d i|.k n=>Int.ofNat n|.c e=>((e.ev c:Nat):Int)|.a x y=>x.ev c d+y.ev c d
 | .s x y=>x.ev c d-y.ev c d|.g x=>-x.ev c d|.m n x=>Int.ofNat n*x.ev c d
noncomputable def pL(u w:List Nat×List Nat):List Nat×List Nat:=(aL u.1 w.1,aL u.2 w.2)
noncomputable def AI.li:AI->Bool->List Nat×List Nat
 | .v i,b=>bif b then([],uL i)else([],[])|.k n,b=>bif b then([n],[])else([],[])|.c e,b=>bif b then(e.li,[])else([],[])|.a x y,b=>pL (x.li b) (y.li b)
 | .s x y,b=>pL (x.li b) (y.li (!b))|.g x,b=>x.li (!b)|.m n x,b=>(sL n (x.li b).1,sL n (x.li b).2)
noncomputable def cY:List Int->List Nat->Int
 |x::c,y::l=>x*(y:Int)+cY c l|[],_=>0|_,[]=>0
noncomputable def dI(c:List Nat)(d:List Int)(u:List Nat×List Nat):Int:=((dt (1::c) u.1:Nat):Int)+cY d u.2
theorem WR(p q r s:Int):p+q+(r+s)=p+r+(q+s):=by omega
theorem ni:∀c,cY c []=0
 |[]=>rfl|_::_=>rfl
theorem WT:∀c l r,cY c (aL l r)=cY c l+cY c r
 |c,[],r=>by rw[ni,Cv];rfl|c,x::l,[]=>by rw[ni,zm];rfl|[],x::l,y::r=>rfl|z::c,x::l,y::r=>by show z*((x+y:Nat):Int)+cY c (aL l r)=(z*x+cY c l)+(z*y+cY c r);rw[WT c l r,Mv,MF];exact WR _ _ _ _
theorem WW(n:Nat):∀c l,cY c (sL n l)=Int.ofNat n*cY c l
 |c,[]=>by rw[ni,G_];exact ni c|[],x::l=>(G_ _).symm|z::c,x::l=>by show z*((n*x:Nat):Int)+cY c (sL n l)=Int.ofNat n*(z*x+cY c l);rw[WW n c l,MF,VF,Int.mul_left_comm];rfl
theorem WX:∀c i,cY c (uL i)=CZ c i
 |[],0=>rfl|[],_+1=>rfl|x::c,0=>by show x*1+cY c []=x;rw[ni,Int.mul_one,zm]|x::c,n+1=>by show x*0+cY c (uL n)=CZ c n;rw[WX c n,G_,Cv]
section
variable (c:List Nat) (d:List Int)
theorem je(u w:List Nat×List Nat):dI c d (pL u w)=dI c d u+dI c d w:=by show((dt (1::c) (aL u.1 w.1):Nat):Int)+cY d (aL u.2 w.2)=_;rw[qm,WT,Mv];exact WR _ _ _ _
theorem Ht(n:Nat)(u:List Nat×List Nat):dI c d (sL n u.1,sL n u.2)=Int.ofNat n*dI c d u:=by show((dt (1::c) (sL n u.1):Nat):Int)+cY d (sL n u.2)=_;rw[CN,WW,VF];exact(MF _ _ _).symm
theorem Nr:dI c d ([],[])=0:=by show((dt (1::c) []:Nat):Int)+cY d []=0;rw[m_,ni];rfl
theorem Zp1(p q r s:Int):p-q+(r-s)=p+r-(q+s):=by omega
theorem WY(p q r s:Int):p-q-(r-s)=p+s-(q+r):=by omega
theorem AI.c7:∀e:AI,e.ev c d=dI c d (e.li true)-dI c d (e.li false)
 | .v i=>by show CZ d i=dI c d ([],uL i)-dI c d ([],[]);rw[Nr,Mz];show _=((dt (1::c) []:Nat):Int)+cY d (uL i);rw[m_,WX];exact(Cv _).symm|.k n=>by show Int.ofNat n=dI c d ([n],[])-dI c d ([],[]);rw[Nr,Mz];show _=((dt (1::c) [n]:Nat):Int)+cY d [];rw[ni,zm];show _=((1*n+dt c []:Nat):Int);rw[m_,Nat.one_mul];rfl|.c e=>by show((e.ev c:Nat):Int)=dI c d (e.li,[])-dI c d ([],[]);rw[Nr,Mz];show _=((dt (1::c) e.li:Nat):Int)+cY d [];rw[ni,zm,e.c7]|.a x y=>by show x.ev c d+y.ev c d=dI c d (pL (x.li true) (y.li true))-dI c d (pL (x.li false) (y.li false));rw[je,je,x.c7,y.c7];exact Zp1 _ _ _ _
 | .s x y=>by show x.ev c d-y.ev c d=dI c d (pL (x.li true) (y.li false))-dI c d (pL (x.li false) (y.li true));rw[je,je,x.c7,y.c7];exact WY _ _ _ _|.g x=>by show -x.ev c d=dI c d (x.li false)-dI c d (x.li true);rw[x.c7];exact Int.neg_sub _ _|.m n x=>by show Int.ofNat n*x.ev c d=dI c d (sL n (x.li true).1,sL n (x.li true).2)-dI c d (sL n (x.li false).1,sL n (x.li false).2);rw[Ht,Ht,x.c7];exact Int.mul_sub _ _ _
noncomputable def cI(x y:AI):List Nat×List Nat:=pL (x.li true) (y.li false)
noncomputable def xr(u:List Nat×List Nat):List Nat×List Nat:=(aL [1] u.1,u.2)
theorem Hu(u:List Nat×List Nat):dI c d (xr u)=dI c d u+1:=by show((dt (1::c) (aL [1] u.1):Nat):Int)+cY d u.2=((dt (1::c) u.1:Nat):Int)+cY d u.2+1;rw[CV,Mv,Int.add_right_comm];rfl
theorem Hv(x y:AI):dI c d (cI x y)-dI c d (cI y x)=x.ev c d-y.ev c d:=by unfold cI;rw[je,je,x.c7,y.c7,WY,Int.add_comm (dI c d (y.li true))]
theorem Hw{x y:AI}(h:x.ev c d<=y.ev c d):dI c d (cI x y)<=dI c d (cI y x):=by have:=Hv c d x y;omega
theorem ZtC{x y:AI}(h:dI c d (cI x y)<=dI c d (cI y x)):x.ev c d<=y.ev c d:=by have:=Hv c d x y;omega
noncomputable def W0:Nat->Int->Int->Prop
 |0,x,y=>x<=y|1,x,y=>x<y|2,x,y=>x=y|3,x,y=>x=y
 |4,x,y=>¬x<=y|5,x,y=>¬x<y|_,_,_=>False
noncomputable def W2:Nat->AI->AI->List Nat×List Nat
 |0,x,y=>cI x y|1,x,y=>xr (cI x y)|2,x,y=>cI x y|4,x,y=>xr (cI y x)
 |_,x,y=>cI y x
noncomputable def W3:Nat->AI->AI->List Nat×List Nat
 |0,x,y=>cI y x|1,x,y=>cI y x|2,x,y=>cI y x|_,x,y=>cI x y
theorem W4{x y:AI}(h:x.ev c d<y.ev c d):dI c d (xr (cI x y))<=dI c d (cI y x):=by have:=Hv c d x y;rw[Hu];omega
theorem Zqa(x y:AI):∀r,W0 r (x.ev c d) (y.ev c d)->dI c d (W2 r x y)<=dI c d (W3 r x y)
 |0,h=>Hw c d h|1,h=>W4 c d h|2,h=>Hw c d (G9 h)|3,h=>Hw c d (G9 h.symm)
 |4,h=>W4 c d (zp.1 h)|5,h=>Hw c d (MJ.1 h)|_+6,h=>h.elim
end
noncomputable def bU:Nat->Nat->AI×Nat
 |0,s=>(.k 0,s)|f+1,s=>bif iD (s % 16) 7 then(.v (s % 16),s / 16)else bif fD (s % 16) 8 then(.c (bN 9 (s / 16)).1,(bN 9 (s / 16)).2)
  else bif fD (s % 16) 9 then(.g (bU f (s / 16)).1,(bU f (s / 16)).2)else bif fD (s % 16) 10 then(.k 1,s / 16)
  else bif fD (s % 16) 11 then(.k (s / 256 % 16^(s / 16 % 16)),s / 256 / 16^(s / 16 % 16))
  else bif fD (s % 16) 12 then(.a (bU f (s / 16)).1 (bU f (bU f (s / 16)).2).1,(bU f (bU f (s / 16)).2).2)
  else bif fD (s % 16) 13 then(.m (s / 16 % 256) (bU f (s / 4096)).1,(bU f (s / 4096)).2)
  else bif fD (s % 16) 14 then(.k 0,s / 16)else(.s (bU f (s / 16)).1 (bU f (bU f (s / 16)).2).1,(bU f (bU f (s / 16)).2).2)
def hP(c:List Nat)(d:List Int)(r s:Nat):Prop:=bif iD 8 r then W0 (r-8) ((bU 9 s).1.ev c d) ((bU 9 (bU 9 s).2).1.ev c d)else CP r ((bN 9 s).1.ev c) ((bN 9 (bN 9 s).2).1.ev c)
noncomputable def hR(r s:Nat):Nat:=bif iD 8 r then(bU 9 (bU 9 s).2).2 else(bN 9 (bN 9 s).2).2
noncomputable def hL(r s:Nat):List Nat×List Nat:=bif iD 8 r then W2 (r-8) (bU 9 s).1 (bU 9 (bU 9 s).2).1 else(Nm r (bN 9 s).1 (bN 9 (bN 9 s).2).1,[])
noncomputable def hH(r s:Nat):List Nat×List Nat:=bif iD 8 r then W3 (r-8) (bU 9 s).1 (bU 9 (bU 9 s).2).1 else(CQ r (bN 9 s).1 (bN 9 (bN 9 s).2).1,[])
theorem ZsR(c:List Nat)(d:List Int)(r s:Nat)(h:hP c d r s):dI c d (hL r s)<=dI c d (hH r s):=by
 unfold hP at h;unfold hL hH;cases e:iD 8 r<;>rw[e]at h
 .exact Int.add_le_add_right (Cu.2 (WM c _ _ _ h)) _
 .exact Zqa c d _ _ _ h
noncomputable def zL:List Nat->Bool
 |[]=>true|x::l=>fD x 0&&zL l
noncomputable def Nt:List Nat->List Nat->Bool
 |[],r=>zL r|x::l,[]=>fD x 0&&zL l|x::l,y::r=>fD x y&&Nt l r
theorem Nu:∀c l,zL l=true->cY c l=0
 |c,[],_=>ni c|[],x::l,_=>rfl|z::c,x::l,h=>by have h:=(gq _ _).mp h;show z*(x:Int)+cY c l=0;rw[zc h.1,Nu c l h.2,zm];exact G_ z
theorem W5:∀c l r,Nt l r=true->cY c l=cY c r
 |c,[],r,h=>(ni c).trans (Nu c r h).symm|c,x::l,[],h=>(Nu c (x::l) h).trans (ni c).symm|[],x::l,y::r,_=>rfl|z::c,x::l,y::r,h=>by have h:=(gq _ _).mp h;show z*(x:Int)+cY c l=z*(y:Int)+cY c r;rw[zc h.1,W5 c l r h.2]
noncomputable def zy(u w:List Nat×List Nat):Bool:=xq u.1 w.1&&Nt u.2 w.2
theorem C_(c:List Nat)(d:List Int){u w:List Nat×List Nat}(h:zy u w=true):dI c d u<=dI c d w:=by have h:=(gq _ _).mp h;exact VG (Cu.2 (zx _ _ _ h.1)) (G9 (W5 d _ _ h.2))
noncomputable def Nv(c:List Nat)(d:List Int):Nat->Nat->Prop
 |0,s=>hP c d (s % 16) (s / 16)|n+1,s=>hP c d (s / 16 % 16) (s / 256)->Nv c d n (hR (s / 16 % 16) (s / 256))
noncomputable def gI(r s:Nat)(L R:List Nat×List Nat):Bool:=bif fD r 0 then zy (pL R ((bN 9 s).1.li,[])) (pL L ((bN 9 (bN 9 s).2).1.li,[]))
 else bif fD r 1 then zy (xr (pL R ((bN 9 s).1.li,[]))) (pL L ((bN 9 (bN 9 s).2).1.li,[]))
 else bif fD r 8 then zy (pL R (cI (bU 9 s).1 (bU 9 (bU 9 s).2).1)) (pL L (cI (bU 9 (bU 9 s).2).1 (bU 9 s).1))
 else bif fD r 9 then zy (xr (pL R (cI (bU 9 s).1 (bU 9 (bU 9 s).2).1))) (pL L (cI (bU 9 (bU 9 s).2).1 (bU 9 s).1))
 else zy (xr R) L
noncomputable def Nx:Nat->Nat->List Nat×List Nat->List Nat×List Nat->Bool
 |0,s,L,R=>gI (s % 16) (s / 16) L R|n+1,s,L,R=>Nx n (hR (s / 16 % 16) (s / 256)) (pL L (sL (s % 16) (hL (s / 16 % 16) (s / 256)).1,sL (s % 16) (hL (s / 16 % 16) (s / 256)).2)) (pL R (sL (s % 16) (hH (s / 16 % 16) (s / 256)).1,sL (s % 16) (hH (s / 16 % 16) (s / 256)).2))
theorem Hx(c:List Nat)(d:List Int)(e:AE):dI c d (e.li,[])=((e.ev c:Nat):Int):=by show((dt (1::c) e.li:Nat):Int)+cY d []=_;rw[ni,zm,e.c7]
theorem W6{a b l r:Int}(h:l<=r)(e:r+a<=l+b):a<=b:=by omega
theorem W7{a b l r:Int}(h:l<=r)(e:r+a+1<=l+b):a<b:=by omega
theorem ZpZ{l r:Int}(h:l<=r)(e:r+1<=l):False:=by omega
theorem Ztr(c:List Nat)(d:List Int)(r s:Nat)(L R:List Nat×List Nat)(h:dI c d L<=dI c d R)(k:gI r s L R=true):hP c d r s:=by
 unfold gI at k;cases e0:fD r 0 with
 |true=>rw[zc e0]at k ⊢;have e:=C_ c d k;rw[je,je,Hx,Hx]at e;exact Cu.1 (W6 h e)|false=>
  cases e1:fD r 1 with
  |true=>rw[zc e1]at k ⊢;have e:=C_ c d k;rw[Hu,je,je,Hx,Hx]at e;exact Hf.1 (W7 h e)|false=>
   cases e8:fD r 8 with
   |true=>rw[zc e8]at k ⊢;have e:=C_ c d k;rw[je,je]at e;exact ZtC c d (W6 h e)|false=>
    cases e9:fD r 9 with
    |true=>rw[zc e9]at k ⊢;have e:=C_ c d k;rw[Hu,je,je]at e;have z:=W7 h e;have y:=Hv c d (bU 9 s).1 (bU 9 (bU 9 s).2).1;show(bU 9 s).1.ev c d<(bU 9 (bU 9 s).2).1.ev c d;exact Int.lt_of_sub_neg (y▸Int.sub_neg_of_lt z)|false=>rw[e0,e1,e8,e9]at k;have e:=C_ c d k;rw[Hu]at e;exact(ZpZ h e).elim
theorem W8(c:List Nat)(d:List Int):∀(n s:Nat) (L R:List Nat×List Nat),dI c d L<=dI c d R->Nx n s L R=true->Nv c d n s
 |0,s,L,R,h,k=>Ztr c d _ _ L R h k|n+1,s,L,R,h,k=>λg=>W8 c d n _ _ _ (by rw[je,je,Ht,Ht];exact VG h (Int.mul_le_mul_of_nonneg_left (ZsR c d _ _ g) (xg _))) k
end L3
theorem iN(c:List Nat)(d:List Int)(n s:Nat)(h:L3.Nx n s ([],[]) ([],[])=true):L3.Nv c d n s:=L3.W8 c d n s ([],[]) ([],[]) (Int.le_refl _) h
set_option Elab.async false
set_option linter.all false
set_option maxRecDepth 100000
namespace L2
open PySem PySem.Spec PyProof.Rows
noncomputable abbrev Key:=Sum Int aj
noncomputable def zA:Key->Yd->Bool
 | .inl k,v=>Value.isInt k v|.inr x,v=>WD x v
noncomputable def Zu0(w:aD):Key->Int
 | .inl k=>hashInt k|.inr x=>hashStr w x
theorem tK:∀{k:Key} {v:Yd},zA k v=true->(∃i t,k=Sum.inl i/\v=Value.int i t)\/(∃x t,k=Sum.inr x/\v=Value.str x t)
 | .inl i,v,h=>by obtain⟨t,e⟩:=Value.isInt_shape (k:=i) (v:=v) h;exact .inl ⟨i,t,rfl,e⟩|.inr x,v,h=>by obtain⟨t,e⟩:=Value.isStrOf_shape (x:=x) (v:=v) h;exact .inr ⟨x,t,rfl,e⟩
theorem Zlf(i:Int)(t:dX):zA (.inl i) (.int i t)=true:=by simp[zA,Value.isInt]
theorem ZlF(x:aj)(t:dX):zA (.inr x) (.str x t)=true:=by simp[zA,WD]
theorem ZrD(a b:Int):decide ((Sum.inl a:Key)=Sum.inl b)=(a==b):=by
 by_cases e:a=b
 .subst e;simp
 .have h:¬(Sum.inl a:Key)=Sum.inl b:=λq=>e (Sum.inl.inj q);rw[decide_eq_false h];exact(beq_eq_false_iff_ne.mpr e).symm
theorem ZrH(a b:aj):decide ((Sum.inr a:Key)=Sum.inr b)=decide (a=b):=by
 by_cases e:a=b
 .subst e;simp
 .have h:¬(Sum.inr a:Key)=Sum.inr b:=λq=>e (Sum.inr.inj q);rw[decide_eq_false h,decide_eq_false e]
theorem Zqq(a:Int)(b:aj):decide ((Sum.inl a:Key)=Sum.inr b)=false:=decide_eq_false (λq=>nomatch q)
theorem Zqu(a:aj)(b:Int):decide ((Sum.inr a:Key)=Sum.inl b)=false:=decide_eq_false (λq=>nomatch q)
noncomputable def jV(prog:Yz)(w:aD):PySem.KeyKind prog w Key where
 is:=zA
 hash:=Zu0 w
 inj:=λv a b ha hb=>by
  rcases tK ha with⟨i,t,rfl,rfl⟩|⟨x,t,rfl,rfl⟩
  .rcases tK hb with⟨j,u,rfl,e⟩|⟨y,u,rfl,e⟩
   .injection e with e1 _;rw[e1]
   .exact nomatch e
  .rcases tK hb with⟨j,u,rfl,e⟩|⟨y,u,rfl,e⟩
   .exact nomatch e
   .injection e with e1 _;rw[e1]
 byValue:=λk v h=>by rcases tK h with⟨i,t,rfl,rfl⟩|⟨x,t,rfl,rfl⟩<;>rfl
 pyHash:=λhv h=>by
  rcases tK hv with⟨i,t,rfl,rfl⟩|⟨x,t,rfl,rfl⟩
  .exact wpAny_pyHash_int h
  .exact Ui h
 eqBool:=λhu hv h=>by
  rcases tK hu with⟨i,t,rfl,rfl⟩|⟨x,t,rfl,rfl⟩
  .rcases tK hv with⟨j,u,rfl,rfl⟩|⟨y,u,rfl,rfl⟩
   .rw[ZrD]at h;exact wpAny_eqBool_int h
   .rw[Zqq]at h;exact Nb i t y u _ _ _ _ h
  .rcases tK hv with⟨j,u,rfl,rfl⟩|⟨y,u,rfl,rfl⟩
   .rw[Zqu]at h;exact Nf x t j u _ _ _ _ h
   .rw[ZrH]at h;exact wpAny_eqBool_str h
 «strs»:=λk x t v h=>by
  rcases tK h with⟨i,u,rfl,e⟩|⟨y,u,rfl,e⟩
  .exact nomatch e
  .injection e with e1 _
   subst e1;cases v<;>rfl
theorem Zir(prog:Yz)(w:aD)(i:Int)(t:dX):(jV prog w).is (.inl i) (.int i t)=true:=Zlf i t
theorem ZiK(prog:Yz)(w:aD)(x:aj)(t:dX):(jV prog w).is (.inr x) (.str x t)=true:=ZlF x t
end L2
namespace L2
open PySem PySem.Spec PyProof.Rows
inductive V where
 |non|bl (b:Bool)|int (i:Int)|str (x:aj)|Dc (b:Array UInt8)|flt (b:UInt64)|ref (a:Yl)|ty (n:String)
 deriving DecidableEq
noncomputable def RelV:V->Yd->Prop
 | .non,u=>u=Value.none|.bl b,u=>u=Value.bool b|.int i,u=>∃t,u=Value.int i t|.str x,u=>∃t,u=Value.str x t
 | .Dc b,u=>∃t,u=Value.bytes b t|.flt b,u=>∃t,u=Value.float b t|.ref a,u=>u=Value.ref a|.ty n,u=>u=Value.type n
noncomputable abbrev Vals:List V->List Yd->Prop:=Paired RelV
theorem Vals.length{xs:List V}{us:List Yd}(r:Vals xs us):xs.length=us.length:=WK r
theorem Vals.get:∀{xs:List V} {us:List Yd} {i:Nat} {x:V},Vals xs us->xs[i]?=Ya x->∃u,us[i]?=Ya u/\RelV x u
 |_,_,_,_,.nil,e=>by simp at e|_,_,0,_,.cons r _,e=>by simp at e;subst e;exact⟨_,rfl,r⟩|_,_,i+1,x,.cons _ t,e=>by obtain⟨u,h1,h2⟩:=Vals.get (i:=i) (x:=x) t (by simpa using e);exact⟨u,by simpa using h1,h2⟩
theorem Vals.set{x:V}{u:Yd}(r:RelV x u):∀{xs:List V} {us:List Yd} (i:Nat),Vals xs us->Vals (xs.set i x) (us.set i u)
 |_,_,_,.nil=>.nil|_,_,0,.cons _ t=>.cons r t|_,_,i+1,.cons q t=>.cons q (Vals.set r i t)
theorem Vals.append:∀{xs ys:List V} {us ws:List Yd},Vals xs us->Vals ys ws->Vals (xs++ys) (us++ws)
 |_,_,_,_,.nil,s=>s|_,_,_,_,.cons r t,s=>.cons r (Vals.append t s)
theorem Vals.take:∀{xs:List V} {us:List Yd} (n:Nat),Vals xs us->Vals (xs.take n) (us.take n)
 |_,_,0,_=>.nil|_,_,_+1,.nil=>.nil|_,_,n+1,.cons r t=>.cons r (Vals.take n t)
theorem Vals.drop:∀{xs:List V} {us:List Yd} (n:Nat),Vals xs us->Vals (xs.drop n) (us.drop n)
 |_,_,0,r=>r|_,_,_+1,.nil=>.nil|_,_,n+1,.cons _ t=>Vals.drop n t
noncomputable def lK:Option V->Option Yd->Prop
 |some v,Ya u=>RelV v u|none,Yi=>True|_,_=>False
noncomputable def KV{κ:Type}:List (κ×V)->List (κ×Yd)->Prop:=Paired λ(p:κ×V) (q:κ×Yd)=>p.1=q.1/\RelV p.2 q.2
noncomputable def kV:Key->V
 | .inl i=>.int i|.inr x=>.str x
inductive HO where
 /--a list -/
 |lst (xs:List V)
 /--a tuple (never changes) -/
 |tup (xs:List V)
 /--a dict whose keys are ints and texts;one whose keys are tuples of ints and texts (the empty one is both) -/
 |dK (kvs:List (Key×V))|dT (kvs:List (List Key×V))
 /--a set of ints:its members,its size -/
 |set (S:Int->Bool) (n:Nat)
 /--an instance of the class at C,its dict at dx,its attributes -/
 |ins (C dx:Yl) (fs:List (aj×V))
 /--the dict of the instance at x -/
 |own (x:Yl)
 /--the dict of an exception -/
 |xd (fs:List (aj×V))
 /--a bound method,f of x -/
 |met (f x:Yl)
 /--a range object lo,lo+1,.. below hi -/
 |Hy (lo hi:Int)
 /--a thing that is known to the object (the script;a dict while a loop walks it):read,never written while it is so -/
 |bA (o:aq) (u:HO)
 /--a code object's table -/
 |vf (ps:Array Yd)
 /--any other thing,by what is true of its one object (a def of one's own:Ahm a S n:=HO.ext λh=>..) -/
 |ext (φ:ao->Prop)
noncomputable abbrev Hp:=Yl->Option HO
noncomputable def upd(H:Hp)(a:Yl)(o:HO):Hp:=λb=>if b=a then Ya o else H b
variable{H:Hp}
theorem cU{a:Yl}{o:HO}:upd H a o a=Ya o:=by unfold upd;rw[if_pos rfl]
variable{b:Yl}
theorem Zk{a:Yl}{o:HO}(h:b≠a):upd H a o b=H b:=by unfold upd;rw[if_neg h]
theorem jA{a:Yl}{o:HO}(h:H a=Ya o)(h':H b=Yi):a≠b:=by intro e;subst e;rw[h]at h';cases h'
section
variable (P:Yz) (w:aD)
def qt(h:ao)(a:Yl)(items:Array Yd):Prop:=∃o,h.get? a=Ya o/\(o.cls= .type "tuple" /\o.dict=Yi)/\∃n,o.data= .seq items n
theorem qt.tup{h:ao}{a:Yl}{items:Array Yd}(x:qt h a items):IsTup h a items:=let⟨o,e,c,d⟩:=x;⟨o,e,c.1,d⟩
theorem qt.new(h:ao)(items:Array Yd):qt (h.push {cls:=.type "tuple",data:=.seq items}) h.objs.size items:=⟨_,Yu _ rfl,⟨rfl,rfl⟩,0,rfl⟩
noncomputable def bR(H:Hp)(h:ao)(a:Yl):HO->Prop
 | .lst xs=>xs.length<=Y6/\∃(its:List Yd) (n:Nat),Vals xs its/\h.get? a=Ya {cls:=.type "list",data:=.seq its.toArray n}|.tup xs=>xs.length<=Y6/\∃its:List Yd,Vals xs its/\qt h a its.toArray|.dK kvs=>kvs.length<=Y6/\(a==uQ)=false/\∃vs,KV kvs vs/\h.DictOf (jV P w) a vs|.dT kvs=>kvs.length<=Y6/\(a==uQ)=false/\∃xs:List (List Key×Yl×Yd),
   Paired (λ(p:List Key×V) (q:List Key×Yl×Yd)=>p.1=q.1/\H q.2.1=Ya (.tup (p.1.map kV))/\RelV p.2 q.2.2) kvs xs/\
   ∃o es ep,h.get? a=Ya o/\o.ExactDict/\o.data= .dict es ep/\es.toList=xs.map (entryOfKey (Gg (jV P w)))/\(xs.map (·.1)).Nodup
 | .set S n=>h.SetOf (intKind P w) a S n|.ins C dx fs=>H dx=Ya (.own a)/\fs.length<=1000/\dx≠a/\h.get? a=Ya (wM C dx)/\
   ∃mA,h.Ns1 dx mA/\(∀f,lK (fs.lookup f) (mA f))/\PySem.Within mA (fs.map (·.1))
 | .own _=>∃o,h.get? a=Ya o|.xd fs=>∃mA,h.Ns1 a mA/\∀f,lK (fs.lookup f) (mA f)|.Hy lo hi=>∃t u v,h.get? a=Ya {cls:=.type "range",data:=.fields #[.int lo t,.int hi u,.int 1 v]}|.bA o u=>h.get? a=Ya o/\bR H h a u
 | .vf ps=>h.get? a=Ya {cls:=.none,data:=.fields ps}|.met f x=>h.get? a=Ya (KZ (.ref f) (.ref x))|.ext φ=>φ h/\(∃o,h.get? a=Ya o)/\∀h1 h2:ao,φ h1->(∀o,h1.get? a=Ya o->h2.get? a=Ya o)->φ h2
def cJ(H:Hp)(h:ao):Prop:=∀a o,H a=Ya o->bR P w H h a o
end
section
variable {P:Yz} {w:aD} {H H':Hp} {h h':ao} {a:Yl} {o:HO}
theorem bR.lt(x:bR P w H h a o):a<h.objs.size:=by
 cases o with
 |lst xs=>obtain⟨_,_,_,_,e⟩:=x;exact Yv e|tup xs=>obtain⟨_,_,_,p⟩:=x;exact p.tup.lt|dK kvs=>obtain⟨_,_,_,_,o,_,_,e,_⟩:=x;exact Yv e|dT kvs=>obtain⟨_,_,_,_,o,_,_,e,_⟩:=x;exact Yv e
 |set S n=>obtain⟨o,_,_,_,e,_⟩:=x;exact Yv e|ins C dx fs=>obtain⟨_,_,_,e,_⟩:=x;exact Yv e|own y=>obtain⟨_,e⟩:=x;exact Yv e|xd fs=>obtain⟨_,⟨_,_,_,e,_⟩,_⟩:=x;exact Yv e
 |Hy lo hi=>obtain⟨_,_,_,e⟩:=x;exact Yv e|bA ob u=>obtain⟨e,_⟩:=x;exact Yv e|vf ps=>exact Yv (show h.get? a=Ya _ from x)|met f y=>exact Yv (show h.get? a=Ya _ from x)
 |ext φ=>obtain⟨_,⟨_,e⟩,_⟩:=x;exact Yv e
theorem Paired.KN{α β:Type}{F G:α->β->Prop}:∀{l₁:List α} {l₂:List β},Paired F l₁ l₂->(∀a b,F a b->G a b)->Paired G l₁ l₂
 |_,_,.nil,_=>.nil|_,_,.cons r t,f=>.cons (f _ _ r) (Paired.KN t f)
theorem bR.stay(x:bR P w H h a o)(k:∀b u,(b=a\/H b=Ya (.own a))->h.get? b=Ya u->h'.get? b=Ya u)(ho:∀b,H b=Ya (.own a)->H' b=Ya (.own a))(ht:∀b xs,H b=Ya (.tup xs)->H' b=Ya (.tup xs)):bR P w H' h' a o:=by
 induction o with
 |lst xs=>obtain⟨z,its,n,r,e⟩:=x;exact⟨z,its,n,r,k _ _ (.inl rfl) e⟩|tup xs=>obtain⟨z,its,r,ob,e,c⟩:=x;exact⟨z,its,r,ob,k _ _ (.inl rfl) e,c⟩|dK kvs=>obtain⟨z,y,vs,r,ob,es,ep,e,c⟩:=x;exact⟨z,y,vs,r,ob,es,ep,k _ _ (.inl rfl) e,c⟩|dT kvs=>obtain⟨z,y,xs,r,ob,es,ep,e,c⟩:=x;exact⟨z,y,xs,Paired.KN r λp q z=>⟨z.1,ht _ _ z.2.1,z.2.2⟩,ob,es,ep,k _ _ (.inl rfl) e,c⟩
 |set S n=>obtain⟨ob,es,ep,t,e,c⟩:=x;exact⟨ob,es,ep,t,k _ _ (.inl rfl) e,c⟩|ins C dx fs=>obtain⟨d,z,ne,e,mA,⟨od,es,ep,e2,c⟩,r⟩:=x;exact⟨ho _ d,z,ne,k _ _ (.inl rfl) e,mA,⟨od,es,ep,k _ _ (.inr d) e2,c⟩,r⟩
 |own y=>obtain⟨ob,e⟩:=x;exact⟨ob,k _ _ (.inl rfl) e⟩|xd fs=>obtain⟨mA,⟨od,es,ep,e,c⟩,r⟩:=x;exact⟨mA,⟨od,es,ep,k _ _ (.inl rfl) e,c⟩,r⟩|Hy lo hi=>obtain⟨t,u,v,e⟩:=x;exact⟨t,u,v,k _ _ (.inl rfl) e⟩|bA ob u ih=>obtain⟨e,q⟩:=x;exact⟨k _ _ (.inl rfl) e,ih q⟩
 |vf ps=>have e:h.get? a=Ya {cls:=.none,data:=.fields ps}:=x;show h'.get? a=Ya {cls:=.none,data:=.fields ps};exact k a _ (.inl rfl) e|met f y=>have e:h.get? a=Ya (KZ (.ref f) (.ref y)):=x;show h'.get? a=Ya (KZ (.ref f) (.ref y));exact k a _ (.inl rfl) e|ext φ=>obtain⟨p,⟨o,e⟩,st⟩:=x;exact⟨st _ _ p λo q=>k _ _ (.inl rfl) q,⟨o,k _ _ (.inl rfl) e⟩,st⟩
theorem cJ.lt(x:cJ P w H h)(e:H a=Ya o):a<h.objs.size:=(x a o e).lt
theorem cJ.fresh(x:cJ P w H h)(e:h.objs.size<=a):H a=Yi:=by
 cases q:H a with
 |none=>rfl|some u=>exact absurd (Yw (x.lt q) e) (u6 _)
theorem cJ.kept(x:cJ P w H h)(k:∀b u,h.get? b=Ya u->h'.get? b=Ya u):cJ P w H h':=λa o e=>(x a o e).stay (λb u _ q=>k b u q) (λ_ q=>q) λ_ _ q=>q
theorem cJ.laid(x:cJ P w H h)(k:∀b u,h.get? b=Ya u->h'.get? b=Ya u)(hp:h.objs.size<=a)(new:bR P w (upd H a o) h' a o):cJ P w (upd H a o) h':=λb u e=>by
 have hn:=x.fresh hp;by_cases hb:b=a
 .subst hb;rw[cU]at e;cases e;exact new
 .rw[Zk hb]at e;exact(x b u e).stay (λc v _ q=>k c v q) (λc q=>by rw[Zk (jA q hn)];exact q) λc xs q=>by rw[Zk (jA q hn)];exact q
end
def Rd(H:Hp)(a:Yl)(u:HO):Prop:=H a=Ya u\/∃o,H a=Ya (.bA o u)
theorem Rd.ok{P:Yz}{w:aD}{h:ao}{a:Yl}{u:HO}(r:Rd H a u)(x:cJ P w H h):bR P w H h a u:=by
 rcases r with r|⟨o,r⟩
 .exact x a u r
 .obtain⟨_,q⟩:=x a _ r;exact q
noncomputable def Dd:Option HO->Prop
 |some (.lst _)=>True|some (.dK _)=>True|some (.dT _)=>True|some (.set _ _)=>True
 |some (.ins _ _ _)=>True|some (.ext _)=>True|_=>False
section
variable {P:Yz} {w:aD} {H:Hp} {h h':ao} {x e:Yl} {o':HO}
theorem cJ.write(ok:cJ P w H h)(mu:Dd (H x))(he:e=x\/H e=Ya (.own x))(k:∀b u,b≠e->h.get? b=Ya u->h'.get? b=Ya u)(heo:∃u,h'.get? e=Ya u)(new:bR P w (upd H x o') h' x o'):cJ P w (upd H x o') h':=λb u q=>by
 have Te:∀c y,H c=Ya (.own y)->c≠x:=λc y r z=>by subst z;rw[r]at mu;exact mu
 have AgY:∀c xs,H c=Ya (.tup xs)->c≠x:=λc xs r z=>by subst z;rw[r]at mu;exact mu
 by_cases hb:b=x
 .subst hb;rw[cU]at q;cases q;exact new
 .rw[Zk hb]at q;by_cases hbe:b=e
  .have q':H b=Ya (.own x):=by
    rcases he with z|z
    .exact absurd (hbe.trans z) hb
    .rw[hbe];exact z
   rw[q]at q';cases q';obtain⟨v,hv⟩:=heo;exact⟨v,by rw[hbe];exact hv⟩
  .refine(ok b u q).stay (λc v hc r=>k c v ?_ r) (λc r=>by rw[Zk (Te c b r)];exact r) λc xs r=>by rw[Zk (AgY c xs r)];exact r
   rcases hc with rfl|hc
   .exact hbe
   .rintro rfl;rcases he with z|z
    .exact Te c b hc z
    .rw[hc]at z;cases z;exact hb rfl
end
structure Un(fs ex:List Yl)(H H':Hp)(h h':ao):Prop where
 keep:∀b o,h.get? b=Ya o->H b=Yi->b∉fs->b∉ex->h'.get? b=Ya o
 slot:∀b o,h.get? b=Ya o->H b=Yi->b∈fs->b∉ex->∃sl,h'.get? b=Ya {o with slots:=sl}
 free:∀b o,h.get? b=Ya o->H b=Yi->b∉ex->H' b=Yi
 there:∀b o,h.get? b=Ya o->b∉ex->∃o',h'.get? b=Ya o'
 tups:∀b xs,H b=Ya (.tup xs)->H' b=Ya (.tup xs)
 jo:∀b o u,H b=Ya (.bA o u)->H' b=Ya (.bA o u)
 jO:∀b ps,H b=Ya (.vf ps)->∃more,H' b=Ya (.vf (ps++more))
section
variable {fs fs' ex ex':List Yl} {H H1 H2:Hp} {h h1 h2 h':ao} {a x e:Yl} {o:HO}
theorem Un.any(u:Un fs ex H H1 h h1){ob:aq}(q:h.get? b=Ya ob)(n:H b=Yi)(hx:b∉ex):∃sl,h1.get? b=Ya {ob with slots:=sl}:=by
 by_cases hb:b∈fs
 .exact u.slot b ob q n hb hx
 .exact⟨ob.slots,u.keep b ob q n hb hx⟩
theorem Un.trans(a:Un fs ex H H1 h h1)(b:Un fs ex H1 H2 h1 h2):Un fs ex H H2 h h2 where
 keep:=λc ob q n hc hx=>b.keep c ob (a.keep c ob q n hc hx) (a.free c ob q n hx) hc hx
 slot:=λc ob q n hc hx=>by obtain⟨sl,e1⟩:=a.slot c ob q n hc hx;obtain⟨sl',e2⟩:=b.slot c _ e1 (a.free c ob q n hx) hc hx;exact⟨sl',e2⟩
 free:=λc ob q n hx=>by obtain⟨o',e1⟩:=a.there c ob q hx;exact b.free c o' e1 (a.free c ob q n hx) hx
 there:=λc ob q hx=>by obtain⟨o',e1⟩:=a.there c ob q hx;exact b.there c o' e1 hx
 tups:=λc xs q=>b.tups c xs (a.tups c xs q)
 jo:=λc ob xs q=>b.jo c ob xs (a.jo c ob xs q)
 jO:=λc ps q=>by obtain⟨m1,e1⟩:=a.jO c ps q;obtain⟨m2,e2⟩:=b.jO c _ e1;exact⟨m1++m2,by rw[e2,V_]⟩
theorem Un.kept(k:∀b u,h.get? b=Ya u->h'.get? b=Ya u):Un fs ex H H h h':=⟨λb ob q _ _ _=>k b ob q,λb ob q _ _ _=>⟨ob.slots,k b ob q⟩,λ_ _ _ n _=>n,λb ob q _=>⟨ob,k b ob q⟩,λ_ _ q=>q,λ_ _ _ q=>q,λ_ ps q=>⟨#[],by rw[q];simp⟩⟩
theorem Un.refl:Un fs ex H H h h:=Un.kept λ_ _ q=>q
theorem Un.laid(k:∀b u,h.get? b=Ya u->h'.get? b=Ya u)(hp:h.objs.size<=a)(hn:H a=Yi):Un fs ex H (upd H a o) h h' where
 keep:=λb u q _ _ _=>k b u q
 slot:=λb u q _ _ _=>⟨u.slots,k b u q⟩
 free:=λb u q n _=>by rw[Zk (dM (Yw (Yv q) hp))];exact n
 there:=λb u q _=>⟨u,k b u q⟩
 tups:=λb xs q=>by rw[Zk (jA q hn)];exact q
 jo:=λb u xs q=>by rw[Zk (jA q hn)];exact q
 jO:=λb ps q=>⟨#[],by rw[Zk (jA q hn),q];simp⟩
theorem Un.write(mu:Dd (H x))(he:e=x\/H e=Ya (.own x))(k:∀b u,b≠e->h.get? b=Ya u->h'.get? b=Ya u)(heo:∃u,h'.get? e=Ya u):Un fs ex H (upd H x o) h h':=by
 have hx:∀b,H b=Yi->b≠x:=λb n z=>by subst z;rw[n]at mu;exact mu
 have hb:∀b,H b=Yi->b≠e:=λb n z=>by
  subst z;rcases he with r|r
  .exact hx b n r
  .rw[n]at r;cases r
 have hm:∀b u,H b=Ya u->¬Dd (Ya u)->b≠x:=λb u q nm z=>by subst z;rw[q]at mu;exact nm mu
 refine⟨λb u q n _ _=>k b u (hb b n) q,λb u q n _ _=>⟨u.slots,k b u (hb b n) q⟩,λb u q n _=>by rw[Zk (hx b n)];exact n,λb u q _=>?_,
  λb xs q=>by rw[Zk (hm b _ q λz=>z)];exact q,λb u xs q=>by rw[Zk (hm b _ q λz=>z)];exact q,λb ps q=>⟨#[],by rw[Zk (hm b _ q λz=>z),q];simp⟩⟩
 by_cases hbe:b=e
 .subst hbe;exact heo
 .exact⟨u,k b u hbe q⟩
end
noncomputable def xu(h:ao)(H:Hp):List Yl:=(jx h.objs.size).filter λa=>(H a).isSome
noncomputable def tL(h:ao)(H:Hp):ao:=Fz h (xu h H)
theorem Zk8(h:ao)(H:Hp):(tL h H).objs.size=h.objs.size:=PySem.W.hideAll_size _ _
theorem ZmM{h:ao}{o:aq}(e:h.get? b=Ya o)(n:H b=Yi):(tL h H).get? b=Ya o:=sy _ e λhm=>by have q:(H b).isSome=true:=(Vb.mp hm).2;rw[n]at q;simp at q
theorem Zpo{h:ao}{o:aq}(e:(tL h H).get? b=Ya o):h.get? b=Ya o/\H b=Yi:=by
 have e':h.get? b=Ya o:=Fy (xu h H) e;refine⟨e',?_⟩;cases q:H b with
 |none=>rfl|some x=>have hm:b∈xu h H:=Vb.mpr ⟨GC.mpr (Yv e'),by simp[q]⟩;have z:(tL h H).get? b=Yi:=TF (xu h H) hm;rw[z]at e;cases e
noncomputable def ZoV(g h:ao)(L:Yl):List (Yl×aq):=(jx h.objs.size).filterMap λa=>if a=L\/(g.get? a).isSome=true then Yi else(h.get? a).map λo=>(a,o)
noncomputable def rest(g h:ao)(L d:Yl):List (Yl×aq):=(ZoV g h L).filter λp=>decide (p.1≠d)
end L2
namespace L2
open PySem PySem.Spec PyProof.Rows
structure Mod(K:Yb)(mg:aj->Option Yd)(base:ao):Prop where
 vg:K.In base
 glob:base.Ns Y2 mg
 blt:∃mb,base.Ns Lk mb/\∀x:aj,x≠ "__name__" ->mb x=fQ x
 nolimit:base.NoLimit
/--the context:a def's body (or a comprehension's block) running. base:fixed through the whole law;s₀,H₀:the entry;outer:the frames whose slots others may change(a def's callers);stack:all frames that run;
  ex:iterators that were made ahead of the entry and are walked here (a comprehension's);fn:the names whose cells were made at the entry (a def:all;a comprehension's block:its own);calm:not within an except suite;pn:pins that every state bears;xe:what is wanted of an exception that leaves the code -/
structure Cx where
 prog:Yz
 w:aD
 K:Yb
 mg:aj->Option Yd
 base:ao
 A:aU
 N:List aj
 s₀:Yg
 H₀:Hp
 env:b7
 outer:List b7
 stack:List b7
 ex:List Yl
 fn:aj->Bool
 calm:Bool
 pn:List (Yl×aq)
 xe:Yd->Yg->Prop
noncomputable def frs(l:List b7):List Yl:=l.filterMap (·.frame)
noncomputable abbrev Cx.fs(X:Cx):List Yl:=frs X.outer
def Hz(sc:Scope)(x:aj):Prop:=sc.names.lookup x=Ya .local\/sc.names.lookup x=Ya .cell\/sc.names.lookup x=Ya .free
def Loc(sc:Scope)(x:aj):Prop:=sc.names.lookup x=Ya .local\/sc.names.lookup x=Ya .cell
def Look(env:b7)(h:ao)(m:aj->Option Yd)(x:aj)(u:Yd):Prop:=(env.kindOf x=Ya .local/\m x=Ya u)\/((env.kindOf x=Ya .cell\/env.kindOf x=Ya .free)/\∃c,env.cells.lookup x=Ya c/\h.IsCell c (Ya u))
structure Cx.Ok(X:Cx):Prop where
 mod:Mod X.K X.mg X.base
 kind:X.env.scope.kind= .function
 glob:X.env.globals=Y2
 blt:X.env.builtins=Lk
 above:X.s₀.heap.objs.size<=X.env.locals
 inj:∀x y c,X.env.cells.lookup x=Ya c->X.env.cells.lookup y=Ya c->x=y
 has:∀x,(X.env.kindOf x=Ya .cell\/X.env.kindOf x=Ya .free)->∃c,X.env.cells.lookup x=Ya c
 cab:∀x c,X.fn x=true->X.env.cells.lookup x=Ya c->X.s₀.heap.objs.size<=c
 hd:X.calm=true->X.A.handled=Yi
 frames:X.A.frames=Ya X.stack
 zB:X.stack=X.outer\/(X.stack=X.env::X.outer/\X.env.frame=Ya X.env.locals)
 Df:∀b∈X.ex,b≠X.env.locals/\∀x c,X.env.cells.lookup x=Ya c->c≠b
 bs:∀b o,X.base.get? b=Ya o->X.s₀.heap.get? b=Ya o/\X.H₀ b=Yi
 lM:X.base.objs.size<=X.s₀.heap.objs.size
 wF:∀b o,X.base.get? b=Ya o->b∉X.ex
 wG:∀b∈X.ex,b∉X.fs
 iW:X.s₀.heap.FunFrames X.base X.outer
 oK:∀b∈X.fs,X.H₀ b=Yi
structure Inv(X:Cx)(pins:List (Yl×aq))(σ:List (Option V))(H:Hp)(s:Yg):Prop where
 ok:X.Ok
 os:s.os=X.s₀.os
 bare:qi s.gens
 base:Un X.fs X.ex X.H₀ H X.s₀.heap s.heap
 loc:∃m,s.heap.Ns X.env.locals m/\∀(i:Nat) (x:aj) (v:V),X.N[i]?=Ya x->σ[i]?=Ya (Ya v)->Hz X.env.scope x->∃u,RelV v u/\Look X.env s.heap m x u
 cell:∀x c,X.env.cells.lookup x=Ya c->∃v,s.heap.IsCell c v
 free:H X.env.locals=Yi
 iV:∀x c,X.env.cells.lookup x=Ya c->H c=Yi
 pin:∀p∈X.pn++pins,s.heap.get? p.1=Ya p.2/\H p.1=Yi/\p.1≠X.env.locals/\p.1∉X.fs/\∀v,p.2.data≠ .cell v
 hok:cJ X.prog X.w H s.heap
 len:σ.length=X.N.length
variable{t':Nat}{E:Yd->Yg->Prop}{ch:List Yl}
section
variable {X:Cx} {pins:List (Yl×aq)} {σ:List (Option V)} {H H':Hp} {s:Yg} {h':ao}
theorem Cx.Ok.AgZ(ok:X.Ok){b:Yl}{o:aq}(e:X.base.get? b=Ya o):b∉X.fs:=λhb=>by have:=(ok.iW.mem hb).1;rw[e]at this;cases this
theorem Inv.bs(I:Inv X pins σ H s):∀b o,X.base.get? b=Ya o->s.heap.get? b=Ya o/\H b=Yi:=λb o e=>⟨I.base.keep b o (I.ok.bs b o e).1 (I.ok.bs b o e).2 (I.ok.AgZ e) (I.ok.wF b o e),I.base.free b o (I.ok.bs b o e).1 (I.ok.bs b o e).2 (I.ok.wF b o e)⟩
theorem Inv.bk(I:Inv X pins σ H s):∀b o,X.base.get? b=Ya o->s.heap.get? b=Ya o:=λb o e=>(I.bs b o e).1
theorem Inv.mod(I:Inv X pins σ H s):Mod X.K X.mg X.base:=I.ok.mod
theorem Inv.bF(I:Inv X pins σ H s):X.K.In s.heap:=I.ok.mod.vg.keeps I.bk
theorem Inv.nolimit(I:Inv X pins σ H s):s.heap.NoLimit:=I.ok.mod.nolimit.keeps I.bk
theorem Inv.fr(I:Inv X pins σ H s):∃m,Fr X.base X.env.locals s.heap m:=
 let⟨m,hn,_⟩:=I.loc
 ⟨m,hn,I.bk,Ys I.ok.lM I.ok.above⟩
theorem Inv.lt(I:Inv X pins σ H s):X.env.locals<s.heap.objs.size:=let⟨_,hn,_⟩:=I.loc;hn.lt
theorem Inv.sz(I:Inv X pins σ H s):X.s₀.heap.objs.size<=s.heap.objs.size:=Ys I.ok.above (Mg I.lt)
theorem Inv.Ag0(I:Inv X pins σ H s){a:Yl}(h:s.heap.objs.size<=a):a∉X.fs:=λhb=>by obtain⟨_,o,ho,_⟩:=I.ok.iW.mem hb;exact absurd (Yw (Yv ho) (Ys I.sz h)) (u6 _)
theorem Inv.vh(I:Inv X pins σ H s):∀x c,X.env.cells.lookup x=Ya c->c≠X.env.locals:=λx c e z=>by obtain⟨v,o,ho,hd⟩:=I.cell x c e;obtain⟨m,⟨o',es,ep,ho',hd',_⟩,_⟩:=I.loc;rw[z,ho']at ho;cases ho;rw[hd']at hd;cases hd
theorem Inv.iW(I:Inv X pins σ H s):s.heap.FunFrames X.base X.outer:=by
 have all:∀(l:List b7),(∀b∈frs l,b∈X.fs)->X.s₀.heap.FunFrames X.base l->s.heap.FunFrames X.base l:=by
  intro l
  induction l with
  |nil=>intro _ _;trivial|cons env r ih=>intro hs hl;obtain⟨hk,⟨L,o,hf,hn,ho,hd⟩,hr⟩:=hl;have hL:L∈X.fs:=hs L (by unfold frs;rw[Lx,hf];exact Y0);obtain⟨sl,e⟩:=I.base.slot L o ho (I.ok.oK L hL) hL λz=>I.ok.wG L z hL;exact⟨hk,⟨L,_,hf,hn,e,hd⟩,ih (λb hb=>hs b (by unfold frs;rw[Lx,hf];exact Yx _ hb)) hr⟩
 exact all X.outer (λ_ hb=>hb) I.ok.iW
theorem Inv.stack(I:Inv X pins σ H s):s.heap.FunFrames X.base X.stack:=by
 rcases I.ok.zB with e|⟨e,hf⟩
 .rw[e];exact I.iW
 .rw[e];obtain⟨m,hn,_⟩:=I.loc;refine .cons (by rw[I.ok.kind];decide) hf hn ?_ I.iW;exact Cd (Ys I.ok.lM I.ok.above)
theorem Inv.wD(I:Inv X pins σ H s):∀b∈frs X.stack,b∈X.env.locals::X.fs:=λb hb=>by
 rcases I.ok.zB with e|⟨e,hf⟩
 .rw[e]at hb;exact Yx _ hb
 .rw[e]at hb;unfold frs at hb;rw[Lx,hf]at hb;exact hb
theorem Inv.Fj(I:Inv X pins σ H s):∀b∈frs X.stack,H b=Yi:=λb hb=>by
 rcases Y5.mp (I.wD b hb)with e|hb
 .rw[e];exact I.free
 .obtain⟨_,o,ho,_⟩:=I.ok.iW.mem hb;exact I.base.free b o ho (I.ok.oK b hb) λz=>I.ok.wG b z hb
theorem Inv.step{g':Array GenState}{d':Drawn}(I:Inv X pins σ H s)(hch:∀b∈ch,(b∈X.ex\/X.s₀.heap.objs.size<=b)/\b≠X.env.locals/\(∀x c,X.env.cells.lookup x=Ya c->c≠b)/\∀p∈X.pn++pins,p.1≠b)(keep:∀b o,b≠X.env.locals->b∉X.fs->b∉ch->s.heap.get? b=Ya o->H b=Yi->h'.get? b=Ya o)(slot:∀b o,b≠X.env.locals->b∈X.fs->b∉ch->s.heap.get? b=Ya o->H b=Yi->∃sl,h'.get? b=Ya {o with slots:=sl})(free:∀b o,b∉ch->s.heap.get? b=Ya o->H b=Yi->H' b=Yi)(there:∀b o,b∉ch->s.heap.get? b=Ya o->∃o',h'.get? b=Ya o')(tups:∀b xs,H b=Ya (.tup xs)->H' b=Ya (.tup xs))(jo:∀b o u,H b=Ya (.bA o u)->H' b=Ya (.bA o u))(jO:∀b ps,H b=Ya (.vf ps)->∃more,H' b=Ya (.vf (ps++more)))(ns:∀m,s.heap.Ns X.env.locals m->h'.Ns X.env.locals m)(hok:cJ X.prog X.w H' h')(hg:qi g'):
  Inv X pins σ H' {s with heap:=h',gens:=g',drawn:=d',toks:=t'}:=by
 have W9:∀b o,X.s₀.heap.get? b=Ya o->b≠X.env.locals:=λb o e=>dM (Yw (Yv e) I.ok.above);have HB:∀b o,X.s₀.heap.get? b=Ya o->b∉X.ex->b∉ch:=λb o e hx hb=>by
  rcases(hch b hb).1 with z|z
  .exact hx z
  .exact absurd (Yw (Yv e) z) (u6 _)
 have cellK:∀x c,X.env.cells.lookup x=Ya c->∀v,s.heap.IsCell c v->h'.IsCell c v:=λx c e v ak=>by
  obtain⟨o,ho,hd⟩:=ak;have Dg:c∉ch:=λz=>(hch c z).2.2.1 x c e rfl;by_cases hc:c∈X.fs
  .obtain⟨sl,q⟩:=slot c o (I.vh x c e) hc Dg ho (I.iV x c e);exact⟨_,q,hd⟩
  .exact⟨o,keep c o (I.vh x c e) hc Dg ho (I.iV x c e),hd⟩
 refine⟨I.ok,I.os,hg,⟨λb o e n hb hx=>?_,λb o e n hb hx=>?_,λb o e n hx=>?_,λb o e hx=>?_,λb xs e=>tups b xs (I.base.tups b xs e),λb o xs e=>jo b o xs (I.base.jo b o xs e),λb ps e=>?_⟩,?_,λx c e=>?_,?_,λx c e=>?_,λp hp=>?_,hok,I.len⟩
 .exact keep b o (W9 b o e) hb (HB b o e hx) (I.base.keep b o e n hb hx) (I.base.free b o e n hx)
 .obtain⟨sl,e1⟩:=I.base.slot b o e n hb hx;obtain⟨sl',e2⟩:=slot b _ (W9 b o e) hb (HB b o e hx) e1 (I.base.free b o e n hx);exact⟨sl',e2⟩
 .obtain⟨o',e1⟩:=I.base.there b o e hx;exact free b o' (HB b o e hx) e1 (I.base.free b o e n hx)
 .obtain⟨o',e1⟩:=I.base.there b o e hx;exact there b o' (HB b o e hx) e1
 .obtain⟨m1,e1⟩:=I.base.jO b ps e;obtain⟨m2,e2⟩:=jO b _ e1;exact⟨m1++m2,by rw[e2,V_]⟩
 .obtain⟨m,hn,hl⟩:=I.loc;refine⟨m,ns m hn,λi x v e1 e2 e3=>?_⟩;obtain⟨u,r,l⟩:=hl i x v e1 e2 e3;refine⟨u,r,?_⟩;rcases l with l|⟨k,c,e,z⟩
  .exact .inl l
  .exact .inr ⟨k,c,e,cellK x c e _ z⟩
 .obtain⟨v,z⟩:=I.cell x c e;exact⟨v,cellK x c e v z⟩
 .obtain⟨m,⟨o,_,_,ho,_⟩,_⟩:=I.loc;exact free _ o (λz=>(hch _ z).2.1 rfl) ho I.free
 .obtain⟨v,o,ho,hd⟩:=I.cell x c e;exact free c o (λz=>(hch c z).2.2.1 x c e rfl) ho (I.iV x c e)
 .obtain⟨e,n,ne,nf,d⟩:=I.pin p hp;have Dg:p.1∉ch:=λz=>(hch p.1 z).2.2.2 p hp rfl;exact⟨keep p.1 p.2 ne nf Dg e n,free p.1 p.2 Dg e n,ne,nf,d⟩
theorem Inv.un(I:Inv X pins σ H s)(u:Un X.fs [] H H' s.heap h')(hok:cJ X.prog X.w H' h'):Inv X pins σ H' {s with heap:=h',toks:=t'}:=by obtain⟨m,⟨o,es,ep,ho,r⟩,_⟩:=id I.loc;obtain⟨sl,hL⟩:=u.any ho I.free (by simp);exact I.step (g':=s.gens) (d':=s.drawn) (ch:=[]) (λ_ z=>nomatch z) (λb o _ hb _ e n=>u.keep b o e n hb (by simp)) (λb o _ hb _ e n=>u.slot b o e n hb (by simp)) (λb o _ e n=>u.free b o e n (by simp)) (λb o _ e=>u.there b o e (by simp)) u.tups u.jo u.jO (λm' hm=>by obtain⟨o',es',ep',ho',r'⟩:=hm;rw[ho]at ho';cases ho';exact⟨_,es',ep',hL,r'⟩) hok I.bare
theorem Inv.call{g':Array GenState}{d':Drawn}(I:Inv X pins σ H s)(u:Un (frs X.stack) ch H H' s.heap h')(hok:cJ X.prog X.w H' h')(hg:qi g')(hch:∀b∈ch,(b∈X.ex\/X.s₀.heap.objs.size<=b)/\b≠X.env.locals/\(∀x c,X.env.cells.lookup x=Ya c->c≠b)/\∀p∈X.pn++pins,p.1≠b):
  Inv X pins σ H' {s with heap:=h',gens:=g',drawn:=d',toks:=t'}:=by
 obtain⟨m,⟨o,es,ep,ho,r⟩,_⟩:=id I.loc;obtain⟨sl,hL⟩:=u.any ho I.free λz=>(hch _ z).2.1 rfl;exact I.step (ch:=ch) hch (λb o hL hb hc e n=>u.keep b o e n (λz=>(Y5.mp (I.wD b z)).elim hL hb) hc) (λb o _ _ hc e n=>u.any e n hc) (λb o hc e n=>u.free b o e n hc) (λb o hc e=>u.there b o e hc) u.tups u.jo u.jO (λm' hm=>by obtain⟨o',es',ep',ho',r'⟩:=hm;rw[ho]at ho';cases ho';exact⟨_,es',ep',hL,r'⟩) hok hg
theorem Inv.turned{it:Yl}(I:Inv X pins σ H s)(k:∀b o,b≠it->s.heap.get? b=Ya o->h'.get? b=Ya o)(hn:H it=Yi)(hL:it≠X.env.locals)(h1:it∈X.ex\/X.s₀.heap.objs.size<=it)(h2:∀x c,X.env.cells.lookup x=Ya c->c≠it)(h3:∀p∈X.pn++pins,p.1≠it):Inv X pins σ H {s with heap:=h',toks:=t'}:=by
 have Dh:∀b u,H b=Ya u->b≠it:=λb u e z=>by rw[z,hn]at e;cases e
 refine I.step (g':=s.gens) (d':=s.drawn) (ch:=[it]) (λb hb=>?_) (λb o _ _ hc e _=>k b o (λz=>hc (by simp[z])) e) (λb o _ _ hc e _=>⟨o.slots,k b o (λz=>hc (by simp[z])) e⟩) (λ_ _ _ _ n=>n)
  (λb o hc e=>⟨o,k b o (λz=>hc (by simp[z])) e⟩) (λ_ _ e=>e) (λ_ _ _ e=>e) (λb ps e=>⟨#[],by rw[e];simp⟩) (λm hm=>?_) (λb u e=>?_) I.bare
 .have e:b=it:=by simpa using hb
  subst e;exact⟨h1,hL,h2,h3⟩
 .obtain⟨o,es,ep,ho,r⟩:=hm;exact⟨o,es,ep,k _ o (cP hL) ho,r⟩
 .refine(I.hok b u e).stay (λc v hc q=>k c v ?_ q) (λ_ q=>q) λ_ _ q=>q;rcases hc with z|z
  .rw[z];exact Dh b u e
  .exact Dh c _ z
theorem Inv.tok(I:Inv X pins σ H s)(t:Nat):Inv X pins σ H {s with toks:=t}:=I.un (h':=s.heap) (t':=t) Un.refl I.hok
theorem Inv.kept(I:Inv X pins σ H s)(k:∀b u,s.heap.get? b=Ya u->h'.get? b=Ya u):Inv X pins σ H {s with heap:=h',toks:=t'}:=I.un (Un.kept k) (I.hok.kept k)
theorem Inv.laid{a:Yl}{o:HO}(I:Inv X pins σ H s)(k:∀b u,s.heap.get? b=Ya u->h'.get? b=Ya u)(hp:s.heap.objs.size<=a)(new:bR X.prog X.w (upd H a o) h' a o):
  Inv X pins σ (upd H a o) {s with heap:=h',toks:=t'}:=I.un (Un.laid k hp (I.hok.fresh hp)) (I.hok.laid k hp new)
theorem Inv.write{x e:Yl}{o:HO}(I:Inv X pins σ H s)(mu:Dd (H x))(he:e=x\/H e=Ya (.own x))(k:∀b u,b≠e->s.heap.get? b=Ya u->h'.get? b=Ya u)(heo:∃u,h'.get? e=Ya u)(new:bR X.prog X.w (upd H x o) h' x o):Inv X pins σ (upd H x o) {s with heap:=h',toks:=t'}:=I.un (Un.write mu he k heo) (I.hok.write mu he k heo new)
theorem Inv.Sw{uE:List (Yl×aq)}(I:Inv X pins σ H s)(h:∀p∈uE,s.heap.get? p.1=Ya p.2/\H p.1=Yi/\p.1≠X.env.locals/\p.1∉X.fs/\∀v,p.2.data≠ .cell v):Inv X uE σ H s:=⟨I.ok,I.os,I.bare,I.base,I.loc,I.cell,I.free,I.iV,λp hp=>(u0.mp hp).elim (λz=>I.pin p (uW _ z)) (h p),I.hok,I.len⟩
theorem Ny{N:List aj}(hN:N.Nodup){i j:Nat}{x:aj}(a:N[i]?=Ya x)(b:N[j]?=Ya x):i=j:=by obtain⟨h1,e1⟩:=Yj.mp a;obtain⟨h2,e2⟩:=Yj.mp b;exact(U8 hN).mp (e1.trans e2.symm)
theorem W_{M:Model}{A:aU}{i:Nat}{x:aj}{v:V}{u:Yd}{Q:Unit->Yg->Prop}(I:Inv X pins σ H s)(hN:X.N.Nodup)(hi:X.N[i]?=Ya x)(hx:Loc X.env.scope x)(r:RelV v u)(h:∀s',Inv X pins (σ.set i (Ya v)) H s'->(∃a,y_ a s.heap s'.heap/\(a=X.env.locals\/X.env.cells.lookup x=Ya a))->Q () s')(hf:X.fn x=true\/X.env.scope.names.lookup x=Ya .local:=by first|exact .inl rfl|exact .inr rfl|assumption):Y1 M A (storeName X.env x u) Q E s:=by
 obtain⟨m,hn,hl⟩:=id I.loc;have hcls:(X.env.scope.kind== .class|| (X.env.scope.kind== .module&&X.env.locals !=X.env.globals))=false:=by rw[I.ok.kind];rfl
 have Xa:i<σ.length:=by rw[I.len];exact(Yj.mp hi).1
 have vh:=I.vh;have tracked:∀{a:Yl} {h':ao},(∃o,s.heap.get? a=Ya o/\H a=Yi)->y_ a s.heap h'->cJ X.prog X.w H h':=λ{a h'} ha hs b ob e=>by
  obtain⟨_,_,hfree⟩:=ha;refine(I.hok b ob e).stay (λc w' hc q=>(hs.2 c ?_).trans q) (λ_ q=>q) λ_ _ q=>q;rintro rfl;rcases hc with rfl|hc
  .rw[hfree]at e;cases e
  .rw[hfree]at hc;cases hc
 rcases hx with hk|hk
 .refine T_ hk hn (λh' hn' hs=>?_) hcls;obtain⟨oL,_,_,hoL,_⟩:=id hn;refine h _ ⟨I.ok,I.os,I.bare,⟨λb o e n hb hx=>?_,λb o e n hb hx=>?_,I.base.free,λb o e hx=>?_,I.base.tups,I.base.jo,I.base.jO⟩,⟨_,hn',λj y v' e1 e2 e3=>?_⟩,λy c e=>?_,I.free,I.iV,λp hp=>?_,tracked ⟨oL,hoL,I.free⟩ hs,by simpa using I.len⟩ ⟨_,hs,.inl rfl⟩
  .exact(hs.2 b (dM (Yw (Yv e) I.ok.above))).trans (I.base.keep b o e n hb hx)
  .obtain⟨sl,e1⟩:=I.base.slot b o e n hb hx;exact⟨sl,(hs.2 b (dM (Yw (Yv e) I.ok.above))).trans e1⟩
  .obtain⟨o',e1⟩:=I.base.there b o e hx;exact⟨o',(hs.2 b (dM (Yw (Yv e) I.ok.above))).trans e1⟩
  .by_cases hj:j=i
   .subst hj;rw[hi]at e1;cases e1;rw[jR Xa]at e2;cases e2;exact⟨u,r,.inl ⟨hk,by simp⟩⟩
   .rw[jw (cP hj)]at e2;obtain⟨u',r',q⟩:=hl j y v' e1 e2 e3;refine⟨u',r',?_⟩;rcases q with⟨k,e⟩|⟨k,c,e,z⟩
    .refine .inl ⟨k,?_⟩;have:y≠x:=λe=>hj (Ny hN e1 (e▸hi));simp[this,e]
    .exact .inr ⟨k,c,e,z.sameBut hs (vh y c e)⟩
  .obtain⟨w',z⟩:=I.cell y c e;exact⟨w',z.sameBut hs (vh y c e)⟩
  .obtain⟨e,n,ne,nf,d⟩:=I.pin p hp;exact⟨(hs.2 p.1 ne).trans e,n,ne,nf,d⟩
 .have hfn:X.fn x=true:=by
   rcases hf with z|z
   .exact z
   .rw[z]at hk;cases hk
  obtain⟨c,hc⟩:=I.ok.has x (.inl hk);obtain⟨w',z⟩:=I.cell x c hc;refine wpAny_storeName_cell I.ok.kind hk hc z (λh' hc' hs=>?_);obtain⟨oc,hoc,Ag1⟩:=id z;refine h {s with heap:=h'} ⟨I.ok,I.os,I.bare,⟨λb o e n hb hx=>?_,λb o e n hb hx=>?_,I.base.free,λb o e hx=>?_,I.base.tups,I.base.jo,I.base.jO⟩,⟨m,hn.sameBut hs (cP (vh x c hc)),λj y v' e1 e2 e3=>?_⟩,λy c' e=>?_,I.free,I.iV,λp hp=>?_,tracked ⟨oc,hoc,I.iV x c hc⟩ hs,by simpa using I.len⟩ ⟨c,hs,.inr hc⟩
  .exact(hs.2 b (dM (Yw (Yv e) (I.ok.cab x c hfn hc)))).trans (I.base.keep b o e n hb hx)
  .obtain⟨sl,e1⟩:=I.base.slot b o e n hb hx;exact⟨sl,(hs.2 b (dM (Yw (Yv e) (I.ok.cab x c hfn hc)))).trans e1⟩
  .obtain⟨o',e1⟩:=I.base.there b o e hx;exact⟨o',(hs.2 b (dM (Yw (Yv e) (I.ok.cab x c hfn hc)))).trans e1⟩
  .by_cases hj:j=i
   .subst hj;rw[hi]at e1;cases e1;rw[jR Xa]at e2;cases e2;exact⟨u,r,.inr ⟨.inl hk,c,hc,hc'⟩⟩
   .rw[jw (cP hj)]at e2;obtain⟨u',r',q⟩:=hl j y v' e1 e2 e3;refine⟨u',r',?_⟩;rcases q with q|⟨k,c',e,z'⟩
    .exact .inl q
    .refine .inr ⟨k,c',e,z'.sameBut hs ?_⟩;rintro rfl;exact hj (Ny hN e1 (I.ok.inj _ _ _ e hc▸hi))
  .by_cases hcc:c'=c
   .subst hcc;exact⟨_,hc'⟩
   .obtain⟨w2,z2⟩:=I.cell y c' e;exact⟨w2,z2.sameBut hs hcc⟩
  .obtain⟨e,n,ne,nf,d⟩:=I.pin p hp;refine⟨(hs.2 p.1 ?_).trans e,n,ne,nf,d⟩;intro q;rw[q,hoc]at e;have q':oc=p.2:=Y3 e;exact d w' (by rw[←q'];exact Ag1)
theorem Nz{M:Model}{A:aU}{i:Nat}{x:aj}{v:V}{u:Yd}{Q:Unit->Yg->Prop}(I:Inv X pins σ H s)(hN:X.N.Nodup)(hi:X.N[i]?=Ya x)(hx:Loc X.env.scope x)(r:RelV v u)(h:∀s',Inv X pins (σ.set i (Ya v)) H s'->Q () s')(hf:X.fn x=true\/X.env.scope.names.lookup x=Ya .local:=by first|exact .inl rfl|exact .inr rfl|assumption):Y1 M A (storeName X.env x u) Q E s:=W_ I hN hi hx r (λs' I' _=>h s' I') hf
theorem Inv.call'{s':Yg}(I:Inv X pins σ H s)(ho:s'.os=s.os)(u:Un (frs X.stack) ch H H' s.heap s'.heap)(hok:cJ X.prog X.w H' s'.heap)(hg:qi s'.gens)(hch:∀b∈ch,(b∈X.ex\/X.s₀.heap.objs.size<=b)/\b≠X.env.locals/\(∀x c,X.env.cells.lookup x=Ya c->c≠b)/\∀p∈X.pn++pins,p.1≠b):Inv X pins σ H' s':=by obtain⟨h',g',d',t',o'⟩:=s';have e:o'=s.os:=ho;subst e;exact I.call (g':=g') (t':=t') (d':=d') u hok hg hch
end
noncomputable abbrev XK:=Yd->Option Yl->Hp->Prop
noncomputable abbrev St:=List (Option V)
noncomputable abbrev VK:=V->Hp->Prop
noncomputable abbrev TE:=St->Hp->VK->Prop
noncomputable abbrev TT:=St->Hp->(Bool->Hp->Prop)->Prop
noncomputable abbrev TA:=St->Hp->(List V->Hp->Prop)->Prop
structure Ends where
 nx:St->Hp->Prop
 rt:VK
 bk:St->Hp->Prop:=λ_ _=>False
 ct:St->Hp->Prop:=λ_ _=>False
noncomputable abbrev TS:=Ends->St->Hp->Prop
inductive EP(X:Cx)(pins:List (Yl×aq))(σ:St)(Q:VK)(u:Yd)(s':Yg):Prop where
 |mk (v:V) (H':Hp) (I:Inv X pins σ H' s') (r:RelV v u) (q:Q v H'):EP X pins σ Q u s'
inductive TP(X:Cx)(pins:List (Yl×aq))(σ:St)(Q:Bool->Hp->Prop)(b:Bool)(s':Yg):Prop where
 |mk (H':Hp) (I:Inv X pins σ H' s') (q:Q b H'):TP X pins σ Q b s'
inductive AP(X:Cx)(pins:List (Yl×aq))(σ:St)(Q:List V->Hp->Prop)(us:List Yd)(s':Yg):Prop where
 |mk (vs:List V) (H':Hp) (I:Inv X pins σ H' s') (r:Vals vs us) (q:Q vs H'):AP X pins σ Q us s'
def SP(X:Cx)(pins:List (Yl×aq))(D:Ends)(f:Flow)(s':Yg):Prop:=
 match f with
 | .next=>∃σ' H',Inv X pins σ' H' s'/\D.nx σ' H'|.brk=>∃σ' H',Inv X pins σ' H' s'/\D.bk σ' H'|.cont=>∃σ' H',Inv X pins σ' H' s'/\D.ct σ' H'|.ret u=>∃v σ' H',Inv X pins σ' H' s'/\RelV v u/\D.rt v H'
def PE(X:Cx)(e:Expr)(t:TE):Prop:=∀(pins:List (Yl×aq)) (s:Yg) (σ:St) (H:Hp) (Q:VK),Inv X pins σ H s->t σ H Q->Y1 (Y9 X.prog X.w) X.A (aA e X.env) (EP X pins σ Q) X.xe s
def PT(X:Cx)(e:Expr)(t:TT):Prop:=∀(pins:List (Yl×aq)) (s:Yg) (σ:St) (H:Hp) (Q:Bool->Hp->Prop),Inv X pins σ H s->t σ H Q->Y1 (Y9 X.prog X.w) X.A (isTrue e X.env (aA e X.env)) (TP X pins σ Q) X.xe s
def PW(X:Cx)(e:Expr)(t:TT):Prop:=∀(whole:lF Yd) (pins:List (Yl×aq)) (s:Yg) (σ:St) (H:Hp) (Q:Bool->Hp->Prop),Inv X pins σ H s->t σ H Q->Y1 (Y9 X.prog X.w) X.A (isTrue e X.env whole) (TP X pins σ Q) X.xe s
theorem PW.pt{X:Cx}{e:Expr}{t:TT}(h:PW X e t):PT X e t:=h _
def PA(X:Cx)(es:List Expr)(t:TA):Prop:=∀(pos:aF) (pins:List (Yl×aq)) (s:Yg) (σ:St) (H:Hp) (Q:List V->Hp->Prop),Inv X pins σ H s->t σ H Q->Y1 (Y9 X.prog X.w) X.A (Gj (bI pos (Yk es X.env))) (AP X pins σ Q) X.xe s
def PS(X:Cx)(st:Ydr)(t:TS):Prop:=∀(pins:List (Yl×aq)) (s:Yg) (σ:St) (H:Hp) (D:Ends),Inv X pins σ H s->t D σ H->Y1 (Y9 X.prog X.w) X.A (exec st X.env) (SP X pins D) X.xe s
def gJ(X:Cx)(st:List Ydr)(t:TS):Prop:=∀(pins:List (Yl×aq)) (s:Yg) (σ:St) (H:Hp) (D:Ends),Inv X pins σ H s->t D σ H->Y1 (Y9 X.prog X.w) X.A (execs st X.env) (SP X pins D) X.xe s
theorem aC{α:Type}{t:lF α}{Q Q':α->Yg->Prop}{M:Model}{A:aU}{s:Yg}(h:Y1 M A t Q E s)(hQ:∀a s,Q a s->Q' a s):Y1 M A t Q' E s:=dw h hQ λ_ _ x=>x
end L2
namespace L2
open PySem PySem.Spec PyProof.Rows
section
variable {X:Cx}
def tM(i:Nat):TE:=λσ H Q=>∃v,σ[i]?=Ya (Ya v)/\Q v H
def tC(v:V):TE:=λ_ H Q=>Q v H
theorem tO{i:Nat}{x:aj}{pos:aF}(hN:X.N[i]?=Ya x)(hv:Hz X.env.scope x)(hd:(x==("__debug__":aj))=false:=by decide)(hcd:(x==("__classdict__":aj))=false:=by decide):PE X (.Name x pos) (tM i):=by
 intro pins s σ H Q I h;obtain⟨v,e,h⟩:=h;obtain⟨m,hn,hl⟩:=I.loc;obtain⟨u,r,l⟩:=hl i x v hN e hv;have fin:EP X pins σ Q u s:=⟨v,H,I,r,h⟩;rcases l with⟨hk,hm⟩|⟨hk,c,hc,hcell⟩
 .exact Ln (wpAny_loadName_local I.ok.kind hk hn hm fin) hd
 .rcases hk with hk|hk
  .exact Ln (wpAny_loadName_cell I.ok.kind hk hc hcell fin) hd
  .exact Ln (wpAny_loadName_free I.ok.kind hk hc hcell fin hcd) hd
theorem Xb{i j pos}:PE X (.Constant (.int i) j pos) (tC (.int i)):=λ_ _ _ H _ I h=>wpAny_Constant_int ⟨.int i,H,I.tok _,⟨_,rfl⟩,h⟩
theorem Zs8{b j pos}:PE X (.Constant (.bool b) j pos) (tC (.bl b)):=λ_ _ _ H _ I h=>Constant_bool ⟨.bl b,H,I,rfl,h⟩
theorem Zrb{j pos}:PE X (.Constant .none j pos) (tC .non):=λ_ _ _ H _ I h=>Constant_none ⟨.non,H,I,rfl,h⟩
theorem zE{x j pos}:PE X (.Constant (.str x) j pos) (tC (.str x)):=λ_ _ _ H _ I h=>Calls.Constant_str ⟨.str x,H,I.tok _,⟨_,rfl⟩,h⟩
def Gl(X:Cx)(x:aj):Prop:=X.env.kindOf x=Ya .globalImplicit
theorem qw{E:Yd->Yg->Prop}{pins:List (Yl×aq)}{s:Yg}{σ:St}{H:Hp}{x:aj}{u:Yd}{pos:aF}{Q:Yd->Yg->Prop}(I:Inv X pins σ H s)(hg:Gl X x)(hm:X.mg x=Ya u)(h:Q u s)(hd:(x==("__debug__":aj))=false:=by decide):Y1 (Y9 X.prog X.w) X.A (aA (.Name x pos) X.env) Q E s:=V4 I.ok.kind hg (Calls.loadGlobal_global (by rw[I.ok.glob];exact I.mod.glob.keeps I.bk) hm h) hd
theorem zF{E:Yd->Yg->Prop}{pins:List (Yl×aq)}{s:Yg}{σ:St}{H:Hp}{x:aj}{u:Yd}{pos:aF}{Q:Yd->Yg->Prop}(I:Inv X pins σ H s)(hg:Gl X x)(hm:X.mg x=Yi)(hv:fQ x=Ya u)(h:Q u s)(hn:x≠ "__name__":=by decide)(hd:(x==("__debug__":aj))=false:=by decide):Y1 (Y9 X.prog X.w) X.A (aA (.Name x pos) X.env) Q E s:=by obtain⟨mb,h1,h2⟩:=I.mod.blt;exact V4 I.ok.kind hg (Calls.loadGlobal_builtin (by rw[I.ok.glob];exact I.mod.glob.keeps I.bk) hm (by rw[I.ok.blt];exact h1.keeps I.bk) ((h2 x hn).trans hv) h) hd
theorem HD{x:aj}{v:V}{u:Yd}{pos:aF}(hg:Gl X x)(hm:X.mg x=Ya u)(r:RelV v u)(hd:(x==("__debug__":aj))=false:=by decide):PE X (.Name x pos) (tC v):=λ_ _ _ H _ I h=>qw I hg hm ⟨v,H,I,r,h⟩ hd
theorem Xc{x:aj}{v:V}{u:Yd}{pos:aF}(hg:Gl X x)(hm:X.mg x=Yi)(hv:fQ x=Ya u)(r:RelV v u)(hn:x≠ "__name__":=by decide)(hd:(x==("__debug__":aj))=false:=by decide):PE X (.Name x pos) (tC v):=λ_ _ _ H _ I h=>zF I hg hm hv ⟨v,H,I,r,h⟩ hn hd
variable {a b:Expr} {ta tb:TE} {pos:aF}
def tB(t:TE):TT:=λσ H Q=>t σ H λx H1=>∃c,x= .bl c/\Q c H1
theorem Zrr{e:Expr}{t:TE}(h:PE X e t)(he:∀whole,isTrue e X.env whole=(do let v ←whole;yV e.pos;sO [v] (truthy v)):=by intro _;rfl):PT X e (tB t):=by intro pins s σ H Q I hw;refine isTrue_plain (aC (h pins s σ H _ I hw) λv s1 ak=>?_) (he _);obtain⟨x,H1,I1,r1,q1⟩:=ak;obtain⟨d,rfl,q⟩:=q1;cases r1;exact BP ⟨H1,I1,q⟩
variable {tA HF:TT} {rest:List Expr}
def Zue(t u:TT):TT:=λσ H Q=>t σ H λc H1=>if c=true then u σ H1 Q else Q false H1
def tOr(t u:TT):TT:=λσ H Q=>t σ H λc H1=>if c=true then Q true H1 else u σ H1 Q
def ZuV(t:TT):TT:=λσ H Q=>t σ H λc H1=>Q (!c) H1
theorem ZoQ(ha:PT X a tA):PW X (.BoolOp .And [a] pos) tA:=by
 intro wh pins s σ H Q I h;refine isTrue_and (aC (ha pins s σ H Q I h) λc s1 e=>?_);cases c with
 |true=>exact isTrue_and_nil e|false=>exact e
theorem ZqN(ha:PT X a tA):PW X (.BoolOp .Or [a] pos) tA:=by
 intro wh pins s σ H Q I h;refine isTrue_or (aC (ha pins s σ H Q I h) λc s1 e=>?_);cases c with
 |false=>exact isTrue_or_nil e|true=>exact e
theorem ZqL(ha:PT X a tA)(hb:PW X (.BoolOp .And (b::rest) pos) HF):PW X (.BoolOp .And (a::b::rest) pos) (Zue tA HF):=by
 intro wh pins s σ H Q I h;refine isTrue_and (aC (ha pins s σ H _ I h) λc s1 ak=>?_);obtain⟨H1,I1,q1⟩:=ak;cases c with
 |true=>exact hb wh pins s1 σ H1 Q I1 q1|false=>exact⟨H1,I1,q1⟩
theorem Zs9(ha:PT X a tA)(hb:PW X (.BoolOp .Or (b::rest) pos) HF):PW X (.BoolOp .Or (a::b::rest) pos) (tOr tA HF):=by
 intro wh pins s σ H Q I h;refine isTrue_or (aC (ha pins s σ H _ I h) λc s1 ak=>?_);obtain⟨H1,I1,q1⟩:=ak;cases c with
 |true=>exact⟨H1,I1,q1⟩|false=>exact hb wh pins s1 σ H1 Q I1 q1
theorem Zqm(ha:PT X a tA):PT X (.UnaryOp .Not a pos) (ZuV tA):=by intro pins s σ H Q I h;exact isTrue_not (aC (ha pins s σ H (λc H1=>Q (!c) H1) I h) λc s' ⟨H',I',q⟩=>⟨H',I',q⟩)
def Zsr(ta tb:TE):TE:=λσ H Q=>ta σ H λx H1=>∃c,x= .bl c/\if c=true then tb σ H1 Q else Q (.bl false) H1
theorem Zqz{op}{t:TE}(h:PE X a t):PE X (.BoolOp op [a] pos) t:=λpins s σ H Q I hw=>BoolOp_one (h pins s σ H Q I hw)
theorem ZpX(ha:PE X a ta)(hb:PE X (.BoolOp .And (b::rest) pos) tb):PE X (.BoolOp .And (a::b::rest) pos) (Zsr ta tb):=by
 intro pins s σ H Q I h;refine BoolOp_and (aC (ha pins s σ H _ I h) λv s1 ak=>?_);obtain⟨x,H1,I1,r1,q1⟩:=ak;obtain⟨c,rfl,q1⟩:=q1;cases r1;refine BP ?_;cases c with
 |true=>exact hb pins s1 σ H1 Q I1 q1|false=>exact⟨.bl false,H1,I1,rfl,q1⟩
def NK(t:TT)(ta tb:TE):TE:=λσ H Q=>t σ H λc H1=>if c=true then ta σ H1 Q else tb σ H1 Q
theorem ZmG{c:Expr}(hc:PT X c tA)(ha:PE X a ta)(hb:PE X b tb):PE X (.IfExp c a b pos) (NK tA ta tb):=by
 intro pins s σ H Q I h;refine wpAny_IfExp (aC (hc pins s σ H _ I h) λd s1 ak=>?_);obtain⟨H1,I1,q1⟩:=ak;cases d with
 |true=>exact ha pins s1 σ H1 Q I1 q1|false=>exact hb pins s1 σ H1 Q I1 q1
end
end L2
namespace L2
open PySem PySem.Spec PyProof.Rows
def bK(K:Yb)(H:Hp)(a:Yl)(xs:List V):Prop:=
 Rd H a (.lst xs)\/
  ∃(o:aq) (its:Array Yd) (n:Nat),K.lookup a=Ya o/\o.cls= .type "list" /\o.dict=Yi/\o.data= .seq its n/\its.size<=Y6/\Vals xs its.toList
def bY(K:Yb)(H:Hp)(a:Yl)(xs:List V):Prop:=
 Rd H a (.tup xs)\/
  ∃(o:aq) (its:Array Yd) (n:Nat),K.lookup a=Ya o/\(o.cls= .type "tuple" /\o.dict=Yi)/\o.data= .seq its n/\its.size<=Y6/\Vals xs its.toList
noncomputable def Zu2:Yd->Option V
 | .none=>Ya .non|.bool b=>Ya (.bl b)|.int i _=>Ya (.int i)|.str x _=>Ya (.str x)
 | .bytes b _=>Ya (.Dc b)|.float b _=>Ya (.flt b)|.ref a=>Ya (.ref a)|.type n=>Ya (.ty n)
 |_=>Yi
theorem RelV.abs{x:V}{u:Yd}(r:RelV x u):Zu2 u=Ya x:=by
 cases x with
 |non=>cases r;rfl|bl _=>cases r;rfl|int _=>obtain⟨t,rfl⟩:=r;rfl|str _=>obtain⟨t,rfl⟩:=r;rfl
 |Dc _=>obtain⟨t,rfl⟩:=r;rfl|flt _=>obtain⟨t,rfl⟩:=r;rfl|ref _=>cases r;rfl|ty _=>cases r;rfl
theorem RelV.inj{x y:V}{u:Yd}(r:RelV x u)(q:RelV y u):x=y:=Y3 (r.abs.symm.trans q.abs)
theorem Vals.inj:∀{xs ys:List V} {us:List Yd},Vals xs us->Vals ys us->xs=ys
 |_,_,_,.nil,.nil=>rfl|_,_,_,.cons r t,.cons r' t'=>by rw[r.inj r',Vals.inj t t']
variable{K:Yb}
section
variable {X:Cx} {pins:List (Yl×aq)} {σ:St} {H:Hp} {s:Yg} {a:Yl} {xs ys:List V}
theorem bK.of(h:H a=Ya (.lst xs)):bK K H a xs:=.inl (.inl h)
theorem bY.of(h:H a=Ya (.tup xs)):bY K H a xs:=.inl (.inl h)
theorem Inv.list(I:Inv X pins σ H s)(h:bK X.K H a xs):∃its:List Yd,Vals xs its/\PlainL s.heap a its.toArray/\xs.length<=Y6:=by
 rcases h with h|⟨o,its,n,hk,hc,hd,hs,hz,r⟩
 .obtain⟨z,its,n,r,e⟩:=h.ok I.hok;exact⟨its,r,⟨_,n,e,rfl,rfl,rfl⟩,z⟩
 .refine⟨its.toList,r,⟨o,n,I.bF a o hk,hc,hd,by simpa using hs⟩,?_⟩;have e:=r.length;simp only[MT]at e;exact lC 2 2199576973345 T1 e hz
theorem Inv.tuple(I:Inv X pins σ H s)(h:bY X.K H a xs):∃its:List Yd,Vals xs its/\IsTup s.heap a its.toArray/\xs.length<=Y6:=by
 rcases h with h|⟨o,its,n,hk,hc,hs,hz,r⟩
 .obtain⟨z,its,r,p⟩:=h.ok I.hok;exact⟨its,r,p.tup,z⟩
 .refine⟨its.toList,r,⟨o,I.bF a o hk,hc.1,n,by simpa using hs⟩,?_⟩;have e:=r.length;simp only[MT]at e;exact lC 2 2199576973345 T1 e hz
theorem Inv.Kw(I:Inv X pins σ H s)(h:bK X.K H a xs)(h':bK X.K H a ys):xs=ys:=by
 obtain⟨its,r,⟨o,n,e,_,_,d⟩,_⟩:=I.list h;obtain⟨its',r',⟨o',n',e',_,_,d'⟩,_⟩:=I.list h';rw[e]at e';cases e';rw[d]at d';injection d' with d1 _;have:its=its':=by simpa using congrArg Cy d1
 subst this;exact r.inj r'
theorem Inv.Ko(I:Inv X pins σ H s)(h:bY X.K H a xs)(h':bY X.K H a ys):xs=ys:=by
 obtain⟨its,r,⟨o,e,_,n,d⟩,_⟩:=I.tuple h;obtain⟨its',r',⟨o',e',_,n',d'⟩,_⟩:=I.tuple h';rw[e]at e';cases e';rw[d]at d';injection d' with d1 _;have:its=its':=by simpa using congrArg Cy d1
 subst this;exact r.inj r'
end
noncomputable abbrev Cx.wish(X:Cx)(E:Yd->Yg->Prop):Cx:={X with xe:=E}
noncomputable abbrev Cx.gw(X:Cx):Cx:=X.wish λ_ _=>False
theorem Cx.Ok.wish{X:Cx}(ok:X.Ok)(E:Yd->Yg->Prop):(X.wish E).Ok:=⟨ok.mod,ok.kind,ok.glob,ok.blt,ok.above,ok.inj,ok.has,ok.cab,ok.hd,ok.frames,ok.zB,ok.Df,ok.bs,ok.lM,ok.wF,ok.wG,ok.iW,ok.oK⟩
theorem Cx.Ok.mO{X:Cx}{E:Yd->Yg->Prop}(ok:(X.wish E).Ok):X.Ok:=⟨ok.mod,ok.kind,ok.glob,ok.blt,ok.above,ok.inj,ok.has,ok.cab,ok.hd,ok.frames,ok.zB,ok.Df,ok.bs,ok.lM,ok.wF,ok.wG,ok.iW,ok.oK⟩
variable{e:Expr}
section
variable {X:Cx} {pins:List (Yl×aq)} {σ:St} {H:Hp} {s:Yg} {E:Yd->Yg->Prop}
theorem Inv.wish(I:Inv X pins σ H s)(E:Yd->Yg->Prop):Inv (X.wish E) pins σ H s:=⟨I.ok.wish E,I.os,I.bare,I.base,I.loc,I.cell,I.free,I.iV,I.pin,I.hok,I.len⟩
theorem Inv.mO(I:Inv (X.wish E) pins σ H s):Inv X pins σ H s:=⟨I.ok.mO,I.os,I.bare,I.base,I.loc,I.cell,I.free,I.iV,I.pin,I.hok,I.len⟩
theorem SP.mO{D:Ends}{f:Flow}{s':Yg}(h:SP (X.wish E) pins D f s'):SP X pins D f s':=by
 cases f with
 |next=>obtain⟨σ',H',I,q⟩:=h;exact⟨σ',H',I.mO,q⟩|brk=>obtain⟨σ',H',I,q⟩:=h;exact⟨σ',H',I.mO,q⟩|cont=>obtain⟨σ',H',I,q⟩:=h;exact⟨σ',H',I.mO,q⟩|ret u=>obtain⟨v,σ',H',I,r,q⟩:=h;exact⟨v,σ',H',I.mO,r,q⟩
theorem PT.gw{t:TT}(h:PT X.gw e t):PT X e t:=λpins s σ H Q I hw=>dw (h pins s σ H Q (I.wish _) hw) (λ_ _ ⟨H',I',q⟩=>⟨H',I'.mO,q⟩) λ_ _ z=>dg z
theorem gJ.gw{st:List Ydr}{t:TS}(h:gJ X.gw st t):gJ X st t:=λpins s σ H D I hw=>dw (h pins s σ H D (I.wish _) hw) (λ_ _ q=>q.mO) λ_ _ z=>dg z
end
section
variable {X:Cx} {st:Ydr} {rest:List Ydr} {t u:TS} {e:Expr} {te:TE} {pos:aF}
def ZsI:TS:=λD σ H=>D.nx σ H
def NP(t u:TS):TS:=λD σ H=>t {D with nx:=u D} σ H
theorem Zoe:gJ X [] ZsI:=λ_ _ σ H _ I h=>FT ⟨σ,H,I,h⟩
theorem HJ(h1:PS X st t)(h2:gJ X rest u):gJ X (st::rest) (NP t u):=by
 intro pins s σ H D I h;refine Uj (aC (h1 pins s σ H {D with nx:=u D} I h) λf s1 q=>?_);cases f with
 |next=>obtain⟨σ',H',I',q⟩:=q;exact h2 pins s1 σ' H' D I' q|ret v=>exact q|brk=>exact q
 |cont=>exact q
theorem HN(h1:PS X st t):gJ X [st] t:=by
 intro pins s σ H D I h;refine Uj (aC (h1 pins s σ H D I h) λf s1 q=>?_);cases f with
 |next=>exact FT q|ret v=>exact q|brk=>exact q|cont=>exact q
theorem Inv.quiet{pins:List (Yl×aq)}{σ:St}{H:Hp}{s:Yg}(I:Inv X pins σ H s):interactive X.env=false:=by simp[interactive,I.ok.kind]
def NQ(te:TE):TS:=λD σ H=>te σ H λ_ H1=>D.nx σ H1
theorem HS(he:PE X e te)(hs:sJ e Yi pos.line X.env=pure false:=by rfl):PS X (.Expr e pos) (NQ te):=by intro pins s σ H D I h;exact wpAny_Expr_any (aC (he pins s σ H _ I h) λv s1 ⟨x,H1,I1,r1,q1⟩=>⟨σ,H1,I1,q1⟩) I.quiet hs
def ZuD(te:TE):TS:=λD σ H=>te σ H D.rt
theorem Zqo(he:PE X e te):PS X (.Return (Ya e) pos) (ZuD te):=by intro pins s σ H D I h;exact wpAny_Return_some (aC (he pins s σ H _ I h) λv s1 ⟨x,H1,I1,r1,q1⟩=>⟨x,σ,H1,I1,r1,q1⟩)
def ZuX(c:TT)(t u:TS):TS:=λD σ H=>c σ H λb H1=>if b=true then t D σ H1 else u D σ H1
theorem Xd{c:Expr}{a b:List Ydr}{tc:TT}(hc:PT X c tc)(ha:gJ X a t)(hb:gJ X b u):PS X (.If c a b pos) (ZuX tc t u):=by
 intro pins s σ H D I h;refine wpAny_If (aC (hc pins s σ H _ I h) λd s1 ak=>?_);obtain⟨H1,I1,q1⟩:=ak;cases d with
 |true=>exact ha pins s1 σ H1 D I1 q1|false=>exact hb pins s1 σ H1 D I1 q1
end
noncomputable abbrev TG:=V->St->Hp->(St->Hp->Prop)->Prop
noncomputable abbrev tQ:=List V->St->Hp->(St->Hp->Prop)->Prop
def PG(X:Cx)(target:Expr)(t:TG):Prop:=
 ∀(pins:List (Yl×aq)) (s:Yg) (σ:St) (H:Hp) (v:V) (u:Yd) (Q:St->Hp->Prop),Inv X pins σ H s->RelV v u->t v σ H Q ->
  Y1 (Y9 X.prog X.w) X.A (lw target X.env u) (λ_ s'=>∃σ' H',Inv X pins σ' H' s'/\Q σ' H') X.xe s
def qx(X:Cx)(ts:List Expr)(t:tQ):Prop:=
 ∀(pins:List (Yl×aq)) (s:Yg) (σ:St) (H:Hp) (vs:List V) (us:List Yd) (Q:St->Hp->Prop),Inv X pins σ H s->Vals vs us->t vs σ H Q ->
  Y1 (Y9 X.prog X.w) X.A (assignInOrder ((oA ts X.env).map (·.2)) us) (λ_ s'=>∃σ' H',Inv X pins σ' H' s'/\Q σ' H') X.xe s
noncomputable abbrev NT:=V->V->V->Hp->(Hp->Prop)->Prop
def Xe(X:Cx)(t:NT):Prop:=
 ∀(pins:List (Yl×aq)) (s:Yg) (σ:St) (H:Hp) (o i v:V) (ov iv u:Yd) (Q:Hp->Prop),Inv X pins σ H s->RelV o ov->RelV i iv->RelV v u->t o i v H Q ->
  Y1 (Y9 X.prog X.w) X.A (setItem ov iv u) (λ_ s'=>∃H',Inv X pins σ H' s'/\Q H') X.xe s
variable{tg:Expr}
section
variable {X:Cx} {pos:aF}
def Xf(i:Nat):TG:=λv σ H Q=>Q (σ.set i (Ya v)) H
theorem Xg{i:Nat}{x:aj}(hN:X.N.Nodup)(hi:X.N[i]?=Ya x)(hx:Loc X.env.scope x)(hf:X.fn x=true\/X.env.scope.names.lookup x=Ya .local:=by first|exact .inl rfl|exact .inr rfl|assumption):PG X (.Name x pos) (Xf i):=by intro pins s σ H v u Q I r h;exact Ug (Nz I hN hi hx r (λs' I'=>⟨_,H,I',h⟩) hf)
def Zuv:tQ:=λvs σ H Q=>vs=[]/\Q σ H
def ZsY(t:TG)(u:tQ):tQ:=λvs σ H Q=>∃v r,vs=v::r/\t v σ H λσ' H'=>u r σ' H' Q
theorem Zo0:qx X [] Zuv:=by intro pins s σ H vs us Q I r h;obtain⟨e,h⟩:=h;subst e;cases r;exact assignInOrder_nil ⟨σ,H,I,h⟩
theorem ZnC{es:List Expr}{t:TG}{u:tQ}(h1:PG X e t)(h2:qx X es u)(hs:(oA (e::es) X.env).map (·.2)=lw e X.env::(oA es X.env).map (·.2):=by rfl):qx X (e::es) (ZsY t u):=by
 intro pins s σ H vs us Q I r h;obtain⟨v,vr,e1,h⟩:=h;subst e1;cases r with
 |cons r rr=>rw[hs];refine assignInOrder_cons (aC (h1 pins s σ H _ _ _ I r h) λ_ s1 ak=>?_);obtain⟨σ1,H1,I1,q1⟩:=ak;exact h2 pins s1 σ1 H1 _ _ Q I1 rr q1
def ZuO(K:Yb)(n:Nat)(t:tQ):TG:=λv σ H Q=>∃a xs,v= .ref a/\bY K H a xs/\xs.length=n/\t xs σ H Q
theorem Zrl{es:List Expr}{k:Nat}{t:tQ}{n:Nat}(hc:X.calm=true)(h:qx X es t)(hn:(oA es X.env).length=n:=by rfl)(hst:(oA es X.env).findIdx? (·.1)=Yi:=by rfl):PG X (.Tuple es k pos) (ZuO X.K n t):=by intro pins s σ H v u Q I r hw;obtain⟨a,xs,e1,hq,hl,hw⟩:=hw;subst e1;cases r;obtain⟨its,rv,ht,hz⟩:=I.tuple hq;refine assign_Tuple_tuple (I.ok.hd hc) ht (by simp[hn,←hl,rv.length]) hst λh' hx=>?_;have I1:Inv X pins σ H {s with heap:=h'}:=I.kept (t':=s.toks) λb o e=>hx b o (dM (Yv e)) e;exact h pins _ σ H xs _ Q I1 (by simpa using rv) hw
def ZuS(to ti:TE)(t:NT):TG:=λv σ H Q=>to σ H λo H1=>ti σ H1 λi H2=>t o i v H2 λH3=>Q σ H3
theorem ZpR{o i:Expr}{to ti:TE}{t:NT}(ho:PE X o to)(hi:PE X i ti)(hs:Xe X t)(ha:∀v,lw (.Subscript o i pos) X.env v=(do
   let ov ←sO [v] (aA o X.env)
   let iv ←sO [v,ov] (aA i X.env)
   yV pos
   sO [v,ov,iv] (setItem ov iv v)
   release [v,ov,iv] []):=by intro _;rfl):PG X (.Subscript o i pos) (ZuS to ti t):=by
 intro pins s σ H v u Q I r h;rw[ha];refine Yc (fP (aC (ho pins s σ H _ I h) λov s1 ak=>?_));obtain⟨x,H1,I1,r1,q1⟩:=ak;refine Yc (fP (aC (hi pins s1 σ H1 _ I1 q1) λiv s2 ak=>?_));obtain⟨y,H2,I2,r2,q2⟩:=ak;refine Yc (pZ (Yc (fP (aC (hs pins s2 σ H2 x y v ov iv u _ I2 r1 r2 r q2) λ_ s3 ak=>?_))));obtain⟨H3,I3,q3⟩:=ak;exact wpAny_release ⟨σ,H3,I3,q3⟩
def Xh(te:TE)(g:TG):TS:=λD σ H=>te σ H λx H1=>g x σ H1 D.nx
theorem ZqM{te:TE}{g:TG}(he:PE X e te)(hg:PG X tg g)(hs:swapsWithSole [tg] e pos.line X.env=pure false:=by rfl)(hw:swappedStores [tg] e X.env=pure Yi:=by rfl)(h1:(oA [tg] X.env).map (·.2)=[lw tg X.env]:=by rfl):PS X (.Assign [tg] e pos) (Xh te g):=by intro pins s σ H D I h;refine wpAny_Assign_stores (aC (he pins s σ H _ I h) λv s1 ak=>?_) hs hw;obtain⟨x,H1,I1,r1,q1⟩:=ak;rw[h1];exact aC (hg pins s1 σ H1 x v _ I1 r1 q1) λ_ s2 q=>q
theorem Xi{i:Nat}{x:aj}{te:TE}{pos':aF}(hN:X.N.Nodup)(hi:X.N[i]?=Ya x)(hx:Loc X.env.scope x)(he:PE X e te)(hs:sJ e (Ya (.Name x pos')) pos.line X.env=pure false:=by rfl)(hf:X.fn x=true\/X.env.scope.names.lookup x=Ya .local:=by first|exact .inl rfl|exact .inr rfl|assumption):
  PS X (.Assign [.Name x pos'] e pos) (Xh te (Xf i)):=by
 intro pins s σ H D I h;refine wpAny_Assign_Name (aC (he pins s σ H _ I h) λv s1 ak=>?_) hs;obtain⟨y,H1,I1,r1,q1⟩:=ak;exact Nz I1 hN hi hx r1 (λs2 I2=>⟨_,H1,I2,q1⟩) hf
end
structure It where
 go:Nat->Hp->Prop
 HW:Nat->Hp->V->Hp->Prop
 stop:Nat->Hp->Prop
def gK(X:Cx)(pins:List (Yl×aq))(H:Hp)(b:Yl):Prop:=H b=Yi/\b≠X.env.locals/\b∉X.fs/\(b∈X.ex\/X.s₀.heap.objs.size<=b)/\(∀x c,X.env.cells.lookup x=Ya c->c≠b)/\∀p∈X.pn++pins,p.1≠b
theorem Inv.wH{X:Cx}{pins:List (Yl×aq)}{σ:St}{H H':Hp}{s:Yg}{b:Yl}(I:Inv X pins σ H s)(hb:s.heap.objs.size<=b)(hn:H' b=Yi):gK X pins H' b:=by
 refine⟨hn,Cp (Yw I.lt hb),I.Ag0 hb,.inr (Ys I.sz hb),λx c e z=>?_,λp hp z=>?_⟩
 .obtain⟨v,q⟩:=I.cell x c e;exact absurd (Yw q.lt (by rw[z];exact hb)) (u6 _)
 .exact absurd (Yw (Yv (I.pin p hp).1) (by rw[z];exact hb)) (u6 _)
structure Turn(P:Yz)(w:aD)(K:Yb)(tg:Expr)(J:It)(fp:List Yl)(it:Yl)(tn:Nat->ao->Prop):Prop where
 mem:it∈fp
 obj:∀i h,tn i h->∀b∈fp,∃o,h.get? b=Ya o/\∀v,o.data≠ .cell v
 keep:∀i h h',tn i h->(∀b∈fp,∀o,h.get? b=Ya o->h'.get? b=Ya o)->tn i h'
 item:∀(X:Cx),X.prog=P->X.w=w->X.K=K->X.calm=true->∀(i:Nat) (pins:List (Yl×aq)) (s:Yg) (σ:St) (H:Hp) (E:Yd->Yg->Prop),Inv X pins σ H s->(∀b∈fp,gK X pins H b)->tn i s.heap->J.go i H ->
  Y1 (Y9 P w) X.A (oE (.ref it)) (λr s1=>∃u,r=Ya u/\
   Y1 (Y9 P w) X.A (BV tg (.ref it) u) (λ_ s2=>∃x H',Inv X pins σ H' s2/\RelV x u/\J.HW i H x H'/\tn (i+1) s2.heap/\∀b∈fp,H' b=Yi) E s1) E s
 done:∀(X:Cx),X.prog=P->X.w=w->X.K=K->X.calm=true->∀(i:Nat) (pins:List (Yl×aq)) (s:Yg) (σ:St) (H:Hp) (E:Yd->Yg->Prop),Inv X pins σ H s->(∀b∈fp,gK X pins H b)->tn i s.heap->J.stop i H ->
  Y1 (Y9 P w) X.A (oE (.ref it)) (λr s1=>r=Yi/\Inv X pins σ H s1) E s
 self:∀(A:aU) (i:Nat) (s:Yg) (Q:Yd->Yg->Prop) (E:Yd->Yg->Prop),tn i s.heap->Q (.ref it) s->Y1 (Y9 P w) A (yX (.ref it)) Q E s
noncomputable abbrev TI:=St->Hp->(It->Hp->Prop)->Prop
def PIE(X:Cx)(pins:List (Yl×aq))(σ:St)(tg:Expr)(R:It->Hp->Prop)(itv:Yd)(s2:Yg):Prop:=∃(it:Yl) (fp:List Yl) (tn:Nat->ao->Prop) (J:It) (H':Hp),itv= .ref it/\Inv X pins σ H' s2/\Turn X.prog X.w X.K tg J fp it tn/\tn 0 s2.heap/\(∀b∈fp,gK X pins H' b)/\R J H'
def PI(X:Cx)(tg iter:Expr)(wi:TI):Prop:=
 ∀(pins:List (Yl×aq)) (s:Yg) (σ:St) (H:Hp) (R:It->Hp->Prop),Inv X pins σ H s->wi σ H R ->
  Y1 (Y9 X.prog X.w) X.A (aA iter X.env) (λv s1=>Y1 (Y9 X.prog X.w) X.A (yX v) (PIE X pins σ tg R) X.xe s1) X.xe s
theorem HX{M:Model}{A:aU}{E:Yd->Yg->Prop}{s:Yg}{it:Yl}{u:Yd}{o:aq}{n:String}{vs:Array Yd}{Q:Unit->Yg->Prop}(ho:s.heap.get? it=Ya o)(hc:o.cls= .type n)(hd:o.data= .fields vs)(hn:["enumerate","zip","dict_itemiterator","dict_reverseitemiterator","odict_iterator","itertools.zip_longest","itertools.pairwise"].contains n=false)(hQ:Q () s):Y1 M A (BV tg (.ref it) u) Q E s:=by
 unfold BV;cases tg<;>first
  |exact Ym hQ
  | (cases u<;>first
    |exact Ym hQ
    | (refine Yc (wpAny_load ho ?_)
       rw[hc,hd];show Y1 M A (if(["enumerate","zip","dict_itemiterator","dict_reverseitemiterator","odict_iterator","itertools.zip_longest","itertools.pairwise"].contains n&&vs[0]?==Ya (iZ _))=true then _ else _) Q E s;rw[if_neg (by intro h;rw[hn,Mi]at h;cases h)];exact Ym hQ))
noncomputable def Xj(K:Yb)(a:Yl):It:=⟨λi H=>∃xs x,bK K H a xs/\xs[i]?=Ya x,λi H x H'=>H'=H/\∀xs,bK K H a xs->xs[i]?=Ya x,λi H=>∃xs,bK K H a xs/\xs.length<=i⟩
noncomputable def Xk(K:Yb)(a:Yl):It:=⟨λi H=>∃xs x,bY K H a xs/\xs[i]?=Ya x,λi H x H'=>H'=H/\∀xs,bY K H a xs->xs[i]?=Ya x,λi H=>∃xs,bY K H a xs/\xs.length<=i⟩
noncomputable def HY(lo:Int)(n:Nat):It:=⟨λi _=>i<n,λi H x H'=>H'=H/\x= .int (lo+i),λi _=>n<=i⟩
theorem Zly{P:Yz}{w:aD}(a it:Yl):Turn P w K tg (Xj K a) [it] it (λi h=>h.IsListIter it a i)where
 mem:=by simp
 obj:=λi h st b hb=>by
  have e:b=it:=by simpa using hb
  subst e;obtain⟨o,e,c,d⟩:=st;exact⟨o,e,λv z=>by rw[d]at z;cases z⟩
 keep:=λi h h' st k=>st.at λo e=>k it (by simp) o e
 item:=by intro X hP hw hK hc i pins s σ H E I hf st hg;subst hP hw hK;obtain⟨xs,x,hq,hx⟩:=hg;obtain⟨its,rv,p,hz⟩:=I.list hq;obtain⟨u,hu,ru⟩:=rv.get hx;obtain⟨f0,f1,f2,f3,f4,f5⟩:=hf it (by simp);refine wpAny_pyNext_list_item st p.isList (x:=u) (by simpa using hu) λh' st' sb=>?_;have I1:Inv X pins σ H {s with heap:=h'}:=I.turned (t':=s.toks) (λb o hb e=>(sb.2 b hb).trans e) f0 f1 f3 f4 f5;obtain⟨o,e,c,d⟩:=id st';exact⟨u,rfl,HX (s:={s with heap:=h'}) e c d (by decide) ⟨x,H,I1,ru,⟨rfl,λys hy=>by rw[I.Kw hy hq];exact hx⟩,st',λb hb=>(hf b hb).1⟩⟩
 done:=by intro X hP hw hK hc i pins s σ H E I hf st hg;subst hP hw hK;obtain⟨xs,hq,hx⟩:=hg;obtain⟨its,rv,p,hz⟩:=I.list hq;obtain⟨f0,f1,f2,f3,f4,f5⟩:=hf it (by simp);have hl:=rv.length;exact wpAny_pyNext_list_end (I.ok.hd hc) st p.isList (by simp;exact lC 2 2268279672881 T1 hl hx) λh' eb=>⟨rfl,I.turned (t':=s.toks) (λb o hb e=>eb b o hb e) f0 f1 f3 f4 f5⟩
 self:=λ_ _ _ _ _ st h=>wpAny_pyIter_listiter st h
theorem Zj6{P:Yz}{w:aD}(a it:Yl):Turn P w K tg (Xk K a) [it] it (λi h=>h.IsTupleIter it a i)where
 mem:=by simp
 obj:=λi h st b hb=>by
  have e:b=it:=by simpa using hb
  subst e;obtain⟨o,e,c,d⟩:=st;exact⟨o,e,λv z=>by rw[d]at z;cases z⟩
 keep:=λi h h' st k=>st.at λo e=>k it (by simp) o e
 item:=by intro X hP hw hK hc i pins s σ H E I hf st hg;subst hP hw hK;obtain⟨xs,x,hq,hx⟩:=hg;obtain⟨its,rv,p,hz⟩:=I.tuple hq;obtain⟨u,hu,ru⟩:=rv.get hx;obtain⟨f0,f1,f2,f3,f4,f5⟩:=hf it (by simp);refine wpAny_pyNext_tuple_item st (show s.heap.IsTuple a its.toArray from p) (x:=u) (by simpa using hu) λh' st' sb=>?_;have I1:Inv X pins σ H {s with heap:=h'}:=I.turned (t':=s.toks) (λb o hb e=>(sb.2 b hb).trans e) f0 f1 f3 f4 f5;obtain⟨o,e,c,d⟩:=id st';exact⟨u,rfl,HX (s:={s with heap:=h'}) e c d (by decide) ⟨x,H,I1,ru,⟨rfl,λys hy=>by rw[I.Ko hy hq];exact hx⟩,st',λb hb=>(hf b hb).1⟩⟩
 done:=by intro X hP hw hK hc i pins s σ H E I hf st hg;subst hP hw hK;obtain⟨xs,hq,hx⟩:=hg;obtain⟨its,rv,p,hz⟩:=I.tuple hq;obtain⟨f0,f1,f2,f3,f4,f5⟩:=hf it (by simp);have hl:=rv.length;exact wpAny_pyNext_tuple_end (I.ok.hd hc) st (show s.heap.IsTuple a its.toArray from p) (by simp;exact lC 2 2268279672881 T1 hl hx) λh' eb=>⟨rfl,I.turned (t':=s.toks) (λb o hb e=>eb b o hb e) f0 f1 f3 f4 f5⟩
 self:=λ_ _ _ _ _ st h=>wpAny_pyIter_tupleiter st h
theorem ZjL{P:Yz}{w:aD}(it:Yl)(lo:Int)(n:Nat):Turn P w K tg (HY lo n) [it] it (λi h=>IsRangeIter h it (lo+(i:Nat)*1) ((n:Int)-(i:Nat)) 1)where
 mem:=by simp
 obj:=λi h st b hb=>by
  have e:b=it:=by simpa using hb
  subst e;exact⟨_,st,λv z=>by have z':Data.fields _=Data.cell v:=z;cases z'⟩
 keep:=λi h h' st k=>k it (by simp) _ st
 item:=by intro X hP hw hK hc i pins s σ H E I hf st hg;subst hP hw hK;obtain⟨f0,f1,f2,f3,f4,f5⟩:=hf it (by simp);have W:=Walks.range (prog:=X.prog) (w:=X.w) (I.ok.hd hc) it lo 1 n;refine W.item i s _ _ hg st λv h' tk hv st' kk=>?_;obtain⟨t,rfl⟩:=hv;have I1:Inv X pins σ H {s with heap:=h',toks:=tk}:=I.turned (λb o hb e=>kk b o (by simpa using hb) e) f0 f1 f3 f4 f5;refine⟨_,rfl,HX (s:={s with heap:=h',toks:=tk}) (n:="range_iterator") st' rfl rfl (by decide) ⟨.int (lo+i),H,I1,⟨t,?_⟩,⟨rfl,rfl⟩,st',λb hb=>(hf b hb).1⟩⟩;rw[Int.mul_one]
 done:=by intro X hP hw hK hc i pins s σ H E I hf st hg;subst hP hw hK;obtain⟨f0,f1,f2,f3,f4,f5⟩:=hf it (by simp);exact wpAny_pyNext_range_end (I.ok.hd hc) st (by have:n<=i:=hg;exact iN [_,_] [] 1 0xe1808f81001 T1 this) λh' eb=>⟨rfl,I.turned (t':=s.toks) (λb o hb e=>eb b o hb e) f0 f1 f3 f4 f5⟩
 self:=λ_ _ _ _ _ st h=>wpAny_pyIter_rangeiter st h
end L2
namespace L2
open PySem PySem.Spec PyProof.Rows
variable{pins:List (Yl×aq)}{fp:List Yl}
section
variable {X:Cx} {tg:Expr}
def ZsW(K:Yb)(tl:TE):TI:=λσ H R=>tl σ H λx H1=>∃a,x= .ref a/\(∃xs,bK K H1 a xs)/\R (Xj K a) H1
def Zu1(K:Yb)(tl:TE):TI:=λσ H R=>tl σ H λx H1=>∃a,x= .ref a/\(∃xs,bY K H1 a xs)/\R (Xk K a) H1
theorem ZoE{l:Expr}{tl:TE}(hl:PE X l tl):PI X tg l (ZsW X.K tl):=by
 intro pins s σ H R I h;refine aC (hl pins s σ H _ I h) λv s1 ak=>?_;obtain⟨x,H1,I1,r1,q1⟩:=ak;obtain⟨a,e,⟨xs,hq⟩,q⟩:=q1;subst e;cases r1;obtain⟨its,rv,p,hz⟩:=I1.list hq;refine wO p.isList ?_;refine⟨s1.heap.objs.size,[s1.heap.objs.size],_,_,H1,rfl,I1.kept (t':=s1.toks) λb o e=>Yh _ e,Zly a _,⟨_,Yu _ rfl,rfl,rfl⟩,λb hb=>?_,q⟩;have e:b=s1.heap.objs.size:=by simpa using hb
 subst e;exact I1.wH (Yq _) (I1.hok.fresh (Yq _))
theorem ZqE{l:Expr}{tl:TE}(hl:PE X l tl):PI X tg l (Zu1 X.K tl):=by
 intro pins s σ H R I h;refine aC (hl pins s σ H _ I h) λv s1 ak=>?_;obtain⟨x,H1,I1,r1,q1⟩:=ak;obtain⟨a,e,⟨xs,hq⟩,q⟩:=q1;subst e;cases r1;obtain⟨its,rv,p,hz⟩:=I1.tuple hq;refine Ue (show s1.heap.IsTuple a its.toArray from p) ?_;refine⟨s1.heap.objs.size,[s1.heap.objs.size],_,_,H1,rfl,I1.kept (t':=s1.toks) λb o e=>Yh _ e,Zj6 a _,⟨_,Yu _ rfl,rfl,rfl⟩,λb hb=>?_,q⟩;have e:b=s1.heap.objs.size:=by simpa using hb
 subst e;exact I1.wH (Yq _) (I1.hok.fresh (Yq _))
theorem Zl5{σ:St}{H:Hp}{s:Yg}{R:It->Hp->Prop}{E:Yd->Yg->Prop}{lo hi:Int}{t u v:dX}{tk:Nat}(I:Inv X pins σ H s)(h1:-(2^62)<=lo)(h2:lo<2^62)(h3:-(2^62)<=hi)(h4:hi<2^62)(q:R (HY lo (hi-lo).toNat) H):Y1 (Y9 X.prog X.w) X.A (yX (.ref s.heap.objs.size)) (PIE X pins σ tg R) E {s with heap:=s.heap.push {cls:=.type "range",data:=.fields #[.int lo t,.int hi u,.int 1 v]},toks:=tk}:=by
 refine wpAny_pyIter_range (IsRange.new ..) (small_one h1 h2 h3 h4) ?_;have I1:Inv X pins σ H {s with heap:=s.heap.push {cls:=.type "range",data:=.fields #[.int lo t,.int hi u,.int 1 v]},toks:=tk}:=I.kept λb o e=>Yh _ e;refine⟨(s.heap.push {cls:=.type "range",data:=.fields #[.int lo t,.int hi u,.int 1 v]}).objs.size,[(s.heap.push {cls:=.type "range",data:=.fields #[.int lo t,.int hi u,.int 1 v]}).objs.size],_,_,H,rfl,
  I1.kept (t':=tk) λb o e=>Yh _ e,ZjL _ lo (hi-lo).toNat,?_,λb hb=>?_,q⟩
 .have e1:lo+((0:Nat):Int)*1=lo:=by simp
  have e2:(((hi-lo).toNat:Nat):Int)-((0:Nat):Int)=Builtin.Range.rangeSize lo hi 1:=by rw[rangeSize_one];split <;>omega
  show IsRangeIter _ _ (lo+((0:Nat):Int)*1) ((((hi-lo).toNat:Nat):Int)-((0:Nat):Int)) 1;rw[e1,e2];exact Yu _ rfl
 .have e:b=(s.heap.push {cls:=.type "range",data:=.fields #[.int lo t,.int hi u,.int 1 v]}).objs.size:=by simpa using hb
  subst e;exact I1.wH (Yq _) (I1.hok.fresh (Yq _))
def Zsi(ta:TA):TI:=λσ H R=>ta σ H λvs H1=>∃j:Int,vs=[.int j]/\ -(2^62)<=j/\j<2^62/\R (HY 0 j.toNat) H1
theorem ZlT{a:Expr}{ta:TA}{p pos:aF}(hg:Gl X "range")(hm:X.mg "range" =Yi)(ha:PA X [a] ta)(hs:Yk [a] X.env=[(false,aA a X.env)]:=by rfl):PI X tg (.Call (.Name "range" p) [a] [] pos) (Zsi ta):=by
 intro pins s σ H R I h;refine Call_ (zF I hg hm boot_range (MK (aC (ha pos pins s σ H _ I h) λus s1 ak=>?_) hs rfl));obtain⟨vs,H1,I1,r1,q1⟩:=ak;obtain⟨j,e,q1,q2,q⟩:=q1;subst e;cases r1 with
 |cons r rr=>
  cases rr
  obtain⟨t,rfl⟩:=r;exact call_range_1 (Zl5 I1 (by omega) (by omega) q1 q2 (by simpa using q))
def ZuR(wi:TI)(g:TG)(tb:TS):TS:=λD σ H=>wi σ H λJ H1=>∃W:Nat->Nat->St->Hp->Prop,(∃m,W 0 m σ H1)/\∀i m σ H,W i m σ H ->
 (J.stop i H/\D.nx σ H)\/(J.go i H/\∃N:St->Hp->Prop,(∀σ' H',N σ' H'->∃m',m'<m/\W (i+1) m' σ' H')/\∀x H',J.HW i H x H'->g x σ H' λσ2 H2=>tb {D with nx:=N,ct:=N,bk:=D.nx} σ2 H2)
noncomputable def vm(fp:List Yl)(h:ao):List (Yl×aq):=fp.filterMap λb=>(h.get? b).map λo=>(b,o)
theorem H_{h:ao}{b:Yl}{o:aq}(hb:b∈fp)(e:h.get? b=Ya o):(b,o)∈vm fp h:=Gv.mpr ⟨b,hb,by rw[e];rfl⟩
theorem Zls{h:ao}{p:Yl×aq}(hp:p∈vm fp h):p.1∈fp/\h.get? p.1=Ya p.2:=by
 obtain⟨b,hb,e⟩:=Gv.mp hp;cases q:h.get? b with
 |none=>rw[q]at e;cases e|some o=>rw[q]at e;have e':(b,o)=p:=Y3 e;subst e';exact⟨hb,q⟩
theorem Inv.pinned{σ:St}{H:Hp}{s:Yg}(I:Inv X pins σ H s)(hf:∀b∈fp,gK X pins H b)(ho:∀b∈fp,∃o,s.heap.get? b=Ya o/\∀v,o.data≠ .cell v):Inv X (pins++vm fp s.heap) σ H s:=I.Sw λp hp=>(u0.mp hp).elim (λz=>I.pin p (mW _ z)) λz=>by obtain⟨hb,e⟩:=Zls z;obtain⟨f0,f1,f2,_⟩:=hf p.1 hb;obtain⟨o,e',d⟩:=ho p.1 hb;rw[e]at e';cases e';exact⟨e,f0,f1,f2,d⟩
theorem Inv.Fg{pl:List (Yl×aq)}{σ:St}{H:Hp}{s:Yg}(I:Inv X (pins++pl) σ H s):Inv X pins σ H s:=I.Sw λp hp=>I.pin p (mW _ (uW _ hp))
theorem Ia{iter:Expr}{body:List Ydr}{wi:TI}{g:TG}{tb:TS}{pos:aF}(hp:Lr (Y9 X.prog X.w) X.A X.env X.xe)(hc:X.calm=true)(hi:PI X tg iter wi)(hg:PG X tg g)(hb:gJ X body tb)(hs:∀x,wQ iter X.env x=pure x:=by intro _;rfl):PS X (.For tg iter body [] pos) (ZuR wi g tb):=by
 intro pins s σ H D I h;refine wpAny_For (aC (hi pins s σ H _ I h) λv s1 h1=>aC h1 λitv s2 h2=>?_) hs;obtain⟨it,fp,tn,J,H2,e,I2,T,st2,f2,W,⟨m0,w0⟩,turn⟩:=h2;subst e;have stat:∀{H':Hp},(∀b∈fp,H' b=Yi)->∀b∈fp,gK X pins H' b:=λhn b hb=>⟨hn b hb,(f2 b hb).2⟩;refine codeAny_forLoop_any (λn s'=>∃i σ' H',Inv X pins σ' H' s'/\tn i s'.heap/\(∀b∈fp,H' b=Yi)/\W i n σ' H') ?_ m0 ⟨0,σ,H2,I2,st2,λb hb=>(f2 b hb).1,w0⟩;rintro n s3 ⟨i,σ3,H3,I3,st3,Xl,w3⟩;rcases turn i n σ3 H3 w3 with⟨stop,qn⟩|⟨go,N,hN,step⟩
 .refine BW hp (aC (T.done X rfl rfl rfl hc i pins s3 σ3 H3 X.xe I3 (stat Xl) st3 stop) λr s4 ⟨hr,I4⟩=>?_);subst hr;exact FT ⟨σ3,H3,I4,qn⟩
 .refine BW hp (aC (T.item X rfl rfl rfl hc i pins s3 σ3 H3 X.xe I3 (stat Xl) st3 go) λr s4 ⟨u,hr,h4⟩=>?_);subst hr;refine BW hp (aC h4 λ_ s5 ak=>?_);obtain⟨x,H5,I5,r5,y5,jW,tR⟩:=ak;have NZ:=I5.pinned (stat tR) (T.obj _ _ jW);refine BW hp (aC (hg _ s5 σ3 H5 x u _ NZ r5 (step x H5 y5)) λ_ s6 ak=>?_);obtain⟨σ6,H6,I6,q6⟩:=ak;refine BW hp (aC (hb _ s6 σ6 H6 _ I6 q6) λf s7 q7=>?_);have again:∀{σ7:St} {H7:Hp},Inv X (pins++vm fp s5.heap) σ7 H7 s7->N σ7 H7->∃m,m<n/\∃i σ' H',Inv X pins σ' H' s7/\tn i s7.heap/\(∀b∈fp,H' b=Yi)/\W i m σ' H':=λ{σ7 H7} I7 n7=>by
   obtain⟨m',hm,w7⟩:=hN σ7 H7 n7;refine⟨m',hm,i+1,σ7,H7,I7.Fg,T.keep _ _ _ jW λb hb o e=>(I7.pin (b,o) (mW _ (mW _ (H_ hb e)))).1,λb hb=>?_,w7⟩;obtain⟨o,e,d⟩:=T.obj _ _ jW b hb;exact(I7.pin (b,o) (mW _ (mW _ (H_ hb e)))).2.1
  cases f with
  |next=>obtain⟨σ7,H7,I7,n7⟩:=q7;exact again I7 n7|cont=>obtain⟨σ7,H7,I7,n7⟩:=q7;exact again I7 n7|brk=>obtain⟨σ7,H7,I7,q7⟩:=q7;exact⟨σ7,H7,I7.Fg,q7⟩|ret v=>obtain⟨x7,σ7,H7,I7,r7,q7⟩:=q7;exact⟨x7,σ7,H7,I7.Fg,r7,q7⟩
end
end L2
namespace L2
open PySem PySem.Spec PyProof.Rows
noncomputable abbrev R2:=V->V->Hp->VK->Prop
def aJ(X:Cx)(f:Yd->Yd->lF Yd)(r:R2):Prop:=
 ∀(pins:List (Yl×aq)) (s:Yg) (σ:St) (H:Hp) (x y:V) (v u:Yd) (Q:VK),Inv X pins σ H s->RelV x v->RelV y u->r x y H Q ->
  Y1 (Y9 X.prog X.w) X.A (f v u) (EP X pins σ Q) X.xe s
def tU(X:Cx)(f:Yd->lF Yd)(r:V->Hp->VK->Prop):Prop:=
 ∀(pins:List (Yl×aq)) (s:Yg) (σ:St) (H:Hp) (x:V) (v:Yd) (Q:VK),Inv X pins σ H s->RelV x v->r x H Q ->
  Y1 (Y9 X.prog X.w) X.A (f v) (EP X pins σ Q) X.xe s
def cj(X:Cx)(f:Yd)(r:List V->Hp->VK->Prop):Prop:=
 ∀(pins:List (Yl×aq)) (s:Yg) (σ:St) (H:Hp) (xs:List V) (us:List Yd) (Q:VK),Inv X pins σ H s->Vals xs us->r xs H Q ->
  Y1 (Y9 X.prog X.w) X.A (call f us) (EP X pins σ Q) X.xe s
def Di(r:R2)(ta tb:TE):TE:=λσ H Q=>ta σ H λx H1=>tb σ H1 λy H2=>r x y H2 Q
def Xm(r:V->Hp->VK->Prop)(ta:TE):TE:=λσ H Q=>ta σ H λx H1=>r x H1 Q
def rI(C:Int->Int->Prop)(g:Int->Int->V):R2:=λx y H Q=>∃i j,x= .int i/\y= .int j/\C i j/\Q (g i j) H
def xF(g:Int->Int->V):R2:=λx y H Q=>∃i j,x= .int i/\y= .int j/\Q (g i j) H
noncomputable def rU(g:Int->V):V->Hp->VK->Prop:=λx H Q=>∃i,x= .int i/\Q (g i) H
variable{f:Yd->Yd->lF Yd}{pins:List (Yl×aq)}
section
variable {X:Cx} {a b c:Expr} {ta tb tc:TE} {pos:aF}
theorem N5(ha:PE X a ta)(hb:PE X b tb){s:Yg}{σ:St}{H:Hp}{R:V->V->Hp->Prop}(I:Inv X pins σ H s)(h:ta σ H λx H1=>tb σ H1 λy H2=>R x y H2){Q:Yd->Yg->Prop}(hf:∀v u s2 x y H2,Inv X pins σ H2 s2->RelV x v->RelV y u->R x y H2->Y1 (Y9 X.prog X.w) X.A (f v u) Q X.xe s2):
  Y1 (Y9 X.prog X.w) X.A (aA a X.env) (λv s₁=>Y1 (Y9 X.prog X.w) X.A (aA b X.env) (λu s₂=>Y1 (Y9 X.prog X.w) X.A (f v u) Q X.xe s₂) X.xe s₁) X.xe s:=by
 refine aC (ha pins s σ H _ I h) λv s1 ak=>?_;obtain⟨x,H1,I1,r1,q1⟩:=ak;refine aC (hb pins s1 σ H1 _ I1 q1) λu s2 ak=>?_;obtain⟨y,H2,I2,r2,q2⟩:=ak;exact hf v u s2 x y H2 I2 r1 r2 q2
theorem Zr9{op:Operator}{r:R2}(ho:aJ X (iB op) r)(ha:PE X a ta)(hb:PE X b tb):PE X (.BinOp a op b pos) (Di r ta tb):=by intro pins s σ H Q I h;exact wpAny_BinOp (N5 ha hb I h λv u s2 x y H2 I2 rx ry q=>ho pins s2 σ H2 x y v u Q I2 rx ry q)
theorem Ztk{op:UnaryOp}{r:V->Hp->VK->Prop}(ho:tU X (Gk op) r)(ha:PE X a ta):PE X (.UnaryOp op a pos) (Xm r ta):=by intro pins s σ H Q I h;exact UnaryOp_ (aC (ha pins s σ H _ I h) λv s1 ⟨x,H1,I1,r1,q1⟩=>ho pins s1 σ H1 x v Q I1 r1 q1)
theorem N6{C:Int->Int->Prop}{g:Int->Int->Int}(rule:∀(i j:Int) (t u:dX) (s:Yg) (Q:Yd->Yg->Prop) (E:Yd->Yg->Prop),C i j->Q (.int (g i j) s.toks) {s with toks:=s.toks+1}->Y1 (Y9 X.prog X.w) X.A (f (.int i t) (.int j u)) Q E s):
  aJ X f (rI C λi j=>.int (g i j)):=by
 intro pins s σ H x y v u Q I rx ry h;obtain⟨i,j,rfl,rfl,hc,q⟩:=h;obtain⟨t,rfl⟩:=rx;obtain⟨t',rfl⟩:=ry;exact rule i j t t' s _ _ hc ⟨.int (g i j),H,I.tok _,⟨_,rfl⟩,q⟩
theorem Xn{g:Int->Int->Int}(rule:∀(i j:Int) (t u:dX) (s:Yg) (Q:Yd->Yg->Prop) (E:Yd->Yg->Prop),Q (.int (g i j) s.toks) {s with toks:=s.toks+1}->Y1 (Y9 X.prog X.w) X.A (f (.int i t) (.int j u)) Q E s):
  aJ X f (xF λi j=>.int (g i j)):=by
 intro pins s σ H x y v u Q I rx ry h;obtain⟨i,j,rfl,rfl,q⟩:=h;obtain⟨t,rfl⟩:=rx;obtain⟨t',rfl⟩:=ry;exact rule i j t t' s _ _ ⟨.int (g i j),H,I.tok _,⟨_,rfl⟩,q⟩
theorem N7{g:Int->Int->Bool}(rule:∀(i j:Int) (t u:dX) (s:Yg) (Q:Yd->Yg->Prop) (E:Yd->Yg->Prop),Q (.bool (g i j)) s->Y1 (Y9 X.prog X.w) X.A (f (.int i t) (.int j u)) Q E s):
  aJ X f (xF λi j=>.bl (g i j)):=by
 intro pins s σ H x y v u Q I rx ry h;obtain⟨i,j,rfl,rfl,q⟩:=h;obtain⟨t,rfl⟩:=rx;obtain⟨t',rfl⟩:=ry;exact rule i j t t' s _ _ ⟨.bl (g i j),H,I,rfl,q⟩
def Zuq(i j:Int):Prop:=0<j/\j<1073741824
def Zuw(i j:Int):Prop:=0<=j/\j<=1000000/\i.natAbs<2^64
def Xo(i j:Int):Prop:=(-(2^64)<i/\i<2^64)\/(-(2^64)<j/\j<2^64)
theorem Xo.ok{i j:Int}(h:Xo i j):IntMulOk i j:=by
 rcases h with⟨h1,h2⟩|⟨h1,h2⟩
 .exact .of_left (intBits_le_64 h1 h2)
 .exact .of_right (intBits_le_64 h1 h2)
theorem ZqT:aJ X (iB .Add) (xF λi j=>.int (i+j)):=Xn λ_ _ _ _ _ _ _ q=>add_int q
theorem Zp3:aJ X (iB .Sub) (xF λi j=>.int (i-j)):=Xn λ_ _ _ _ _ _ _ q=>sub_int q
theorem Zpe:aJ X (iB .FloorDiv) (rI Zuq λi j=>.int (i / j)):=N6 λi j _ _ _ _ _ hc q=>by have h1:(0:Int)<j:=hc.1;have h2:j<1073741824:=hc.2;exact floordiv_int (by exactλz=>iN [] [_] 2 26014245025 T1 z h1) (by rw[Int.fdiv_eq_ediv_of_nonneg i (by exact Mx h1)];exact q) (.inl (PyProof.noPylong_small (by omega)))
theorem Zqf:aJ X (iB .Mod) (rI (λ_ j=>0<j) λi j=>.int (i % j)):=N6 λi j _ _ _ _ _ hc q=>by have h1:(0:Int)<j:=hc;exact mod_int' (by exactλz=>iN [] [_] 2 26014245025 T1 z h1) (by rw[Int.fmod_eq_emod_of_nonneg i (by exact Mx h1)];exact q)
theorem Zrt:aJ X (iB .Pow) (rI Zuw λi j=>.int (i^j.toNat)):=N6 λ_ _ _ _ _ _ _ hc q=>pow_int_small hc.1 hc.2.1 hc.2.2 q
theorem unI{f:Yd->lF Yd}{g:Int->Int}(rule:∀(i:Int) (t:dX) (s:Yg) (Q:Yd->Yg->Prop) (E:Yd->Yg->Prop),Q (.int (g i) s.toks) {s with toks:=s.toks+1}->Y1 (Y9 X.prog X.w) X.A (f (.int i t)) Q E s):
  tU X f (rU λi=>.int (g i)):=by
 intro pins s σ H x v Q I rx h;obtain⟨i,rfl,q⟩:=h;obtain⟨t,rfl⟩:=rx;exact rule i t s _ _ ⟨.int (g i),H,I.tok _,⟨_,rfl⟩,q⟩
theorem ZqA:tU X (Gk .USub) (rU λi=>.int (-i)):=unI λ_ _ _ _ _ q=>neg_int q
end
theorem N8{i j:aj}:decide (V.str i=V.str j)=(i==j):=by rw[G4];simp
section
variable {X:Cx} {a b c:Expr} {ta tb tc:TE} {pos:aF}
theorem N_{σ:St}{H:Hp}{s:Yg}{Q:VK}{k k':Bool}(I:Inv X pins σ H s)(q:Q (.bl k) H)(e:k=k'):EP X pins σ Q (.bool k') s:=by subst e;exact⟨.bl k,H,I,rfl,q⟩
theorem Ztm:aJ X (fB .Lt) (xF λi j=>.bl (decide (i<j))):=N7 λ_ _ _ _ _ _ _ q=>lt_int q
theorem ZsN:aJ X (fB .Gt) (xF λi j=>.bl (decide (j<i))):=N7 λ_ _ _ _ _ _ _ q=>gt_int q
theorem ZsZ:aJ X (fB .GtE) (xF λi j=>.bl (decide (j<=i))):=N7 λ_ _ _ _ _ _ _ q=>ge_int q
theorem Zli:aJ X (fB .In) (λx y H Q=>∃i j,x= .str i/\y= .str j/\Q (.bl (!(zq j i 0 j.length 1).isEmpty)) H):=by intro pins s σ H x y v u Q I rx ry h;obtain⟨i,j,rfl,rfl,q⟩:=h;obtain⟨t,rfl⟩:=rx;obtain⟨t',rfl⟩:=ry;exact in_str (N_ I q rfl)
theorem ZpT:aJ X (fB .Is) (λx y H Q=>y= .non/\Q (.bl (decide (x= .non))) H):=by
 intro pins s σ H x y v u Q I rx ry h;obtain⟨rfl,q⟩:=h;cases ry;refine is_none_gen (N_ I q ?_);cases x<;>first
  |(cases rx;rfl)
  |(obtain⟨t,rfl⟩:=rx;rfl)
theorem Zh6:aJ X (fB .NotIn) (λx y H Q=>∃i j,x= .str i/\y= .str j/\Q (.bl (!(!(zq j i 0 j.length 1).isEmpty))) H):=by intro pins s σ H x y v u Q I rx ry h;obtain⟨i,j,rfl,rfl,q⟩:=h;obtain⟨t,rfl⟩:=rx;obtain⟨t',rfl⟩:=ry;exact notIn_str (N_ I q rfl)
noncomputable def isObj:HO->Bool
 | .lst _=>true|.ins _ _ _=>true|_=>false
theorem Dj{s:Yg}{σ:St}{H:Hp}{a:Yl}{o:HO}(I:Inv X pins σ H s)(h:H a=Ya o)(p:isObj o=true):∃ob,s.heap.get? a=Ya ob/\ob.cls≠ .type "tuple":=by
 cases o with
 |lst xs=>obtain⟨_,its,n,_,e⟩:xs.length<=Y6/\∃(its:List Yd) (n:Nat),Vals xs its/\s.heap.get? a=Ya {cls:=.type "list",data:=.seq its.toArray n}:=I.hok a _ h;exact⟨_,e,(by show Value.type "list" ≠ .type "tuple";decide +kernel)⟩|ins C dx fs=>have x:=I.hok a _ h;obtain⟨_,_,_,e,_⟩:=x;exact⟨_,e,(by show Value.ref C≠ .type "tuple";exactλz=>by cases z)⟩|_=>exact absurd (show false=true from p) oG
theorem aJ.or{r r':R2}(h:aJ X f r)(h':aJ X f r'):aJ X f (λx y H Q=>r x y H Q\/r' x y H Q):=by
 intro pins s σ H x y v u Q I rx ry q;rcases q with q|q
 .exact h pins s σ H x y v u Q I rx ry q
 .exact h' pins s σ H x y v u Q I rx ry q
theorem Zo2{op:CmpOp}{r:R2}(ho:aJ X (fB op) r)(ha:PE X a ta)(hb:PE X b tb)(hm:Ga op b=false):PE X (.Compare a [op] [b] pos) (Di r ta tb):=by intro pins s σ H Q I h;exact wpAny_Compare1 (N5 ha hb I h λv u s2 x y H2 I2 rx ry q=>ho pins s2 σ H2 x y v u Q I2 rx ry q) hm
def ZsQ(t:TE):TT:=λσ H Q=>t σ H λx H'=>∃k,x= .bl k/\Q k H'
theorem Zos{op:CmpOp}{r:R2}(ho:aJ X (fB op) r)(ha:PE X a ta)(hb:PE X b tb)(hm:Ga op b=false):PT X (.Compare a [op] [b] pos) (ZsQ (Di r ta tb)):=by intro pins s σ H Q I h;refine wpAny_isTrue_Compare1 (aC (ha pins s σ H _ I h) λv s1 ⟨x,H1,I1,r1,q1⟩=>aC (hb pins s1 σ H1 _ I1 q1) λu s2 ⟨y,H2,I2,r2,q2⟩=>aC (ho pins s2 σ H2 x y v u _ I2 r1 r2 q2) λc s3 ⟨z,H3,I3,r3,k,e,q3⟩=>?_) hm;subst e;cases r3;exact BP ⟨H3,I3,q3⟩
theorem Dk:(Y6:Nat)<2^63:=by rw[iy];decide
theorem ZjB:aJ X (iB .Add) (λx y H Q=>∃i j,x= .str i/\y= .str j/\i.length+j.length<=Y6/\Q (.str (i++j)) H):=by intro pins s σ H x y v u Q I rx ry h;obtain⟨i,j,rfl,rfl,hz,q⟩:=h;obtain⟨t,rfl⟩:=rx;obtain⟨t',rfl⟩:=ry;exact add_str (λt' tk=>⟨.str (i++j),H,I.tok _,⟨_,rfl⟩,q⟩) hz
theorem vals1{x:V}{us:List Yd}(r:Vals [x] us):∃u,us=[u]/\RelV x u:=by
 cases r with
 |cons r1 r2=>cases r2;exact⟨_,rfl,r1⟩
theorem vals2{x y:V}{us:List Yd}(r:Vals [x,y] us):∃u w',us=[u,w']/\RelV x u/\RelV y w':=by
 cases r with
 |cons r1 r2=>
  cases r2 with
  |cons r3 r4=>cases r4;exact⟨_,_,rfl,r1,r3⟩
theorem ZlA:cj X (.type "int") (λxs H Q=>(∃i,xs=[.int i]/\Q (.int i) H)\/∃k,xs=[.bl k]/\Q (.int (if k then 1 else 0)) H):=by
 intro pins s σ H xs us Q I r h;rcases h with⟨i,rfl,q⟩|⟨k,rfl,q⟩
 .obtain⟨u,rfl,t,rfl⟩:=vals1 r;exact call_int_int ⟨.int i,H,I,⟨_,rfl⟩,q⟩
 .obtain⟨u,rfl,r1⟩:=vals1 r;cases r1;exact call_int_bool ⟨.int (if k then 1 else 0),H,I.tok _,⟨_,rfl⟩,q⟩
theorem Zh0:cj X (.type "str") (λxs H Q=>∃i,xs=[.int i]/\i.natAbs.log2<1920/\Q (.str (ql i)) H):=by intro pins s σ H xs us Q I r h;obtain⟨i,rfl,hz,q⟩:=h;obtain⟨u,rfl,t,rfl⟩:=vals1 r;exact PySem.P.str_of_int hz ⟨.str _,H,I.tok _,⟨_,rfl⟩,q⟩
def Zur(K:Yb)(x:V)(H:Hp)(n:Nat):Prop:=
 match x with
 | .str y=>y.length<=Y6/\n=y.length|.Dc y=>y.size<=Y6/\n=y.size|.ref p=>(∃xs,bK K H p xs/\n=xs.length)\/∃xs,bY K H p xs/\n=xs.length|_=>False
theorem Zni:cj X (.builtin "len") (λxs H Q=>∃x n,xs=[x]/\Zur X.K x H n/\Q (.int n) H):=by
 intro pins s σ H xs us Q I r h;obtain⟨x,n,rfl,e,q⟩:=h;obtain⟨u,rfl,rx⟩:=vals1 r;have hl:=Dk;have hs:Y6=16777216:=iy;cases x with
 |str y=>obtain⟨t,rfl⟩:=rx;obtain⟨hy,e'⟩:y.length<=Y6/\n=y.length:=e;subst e';exact len_str (by omega) ⟨.int _,H,I.tok _,⟨_,rfl⟩,q⟩|Dc y=>obtain⟨t,rfl⟩:=rx;obtain⟨hy,e'⟩:y.size<=Y6/\n=y.size:=e;subst e';exact PySem.W.len_bytes (by omega) ⟨.int _,H,I.tok _,⟨_,rfl⟩,q⟩|ref p=>
  cases rx
  have e':(∃xs,bK X.K H p xs/\n=xs.length)\/∃xs,bY X.K H p xs/\n=xs.length:=e;rcases e' with⟨xs,hx,e'⟩|⟨xs,hx,e'⟩
  .subst e';obtain⟨its,r',pl,hz⟩:=I.list hx;have hlen:=r'.length;exact Calls.call_len_list pl.isList (by simp only[Yo];omega) ⟨.int xs.length,H,I.tok _,⟨_,by simp only[Yo];rw[hlen]⟩,q⟩
  .subst e';obtain⟨its,r',pl,hz⟩:=I.tuple hx;have hlen:=r'.length;exact len_tuple pl (by simp only[Yo];omega) ⟨.int xs.length,H,I.tok _,⟨_,by simp only[Yo];rw[hlen]⟩,q⟩
 |_=>exact(show False from e).elim
end
end L2
namespace L2
open PySem PySem.Spec PyProof.Rows
structure Oa(h:ao)(x dx C:Yl)(mA:aj->Option Yd):Prop where
 obj:h.get? x=Ya (wM C dx)
 ns:h.Ns1 dx mA
 ne:dx≠x
theorem ZlG{h:ao}{dx:Yl}{mA:aj->Option Yd}(n:h.Ns1 dx mA):∃od,h.get? dx=Ya od/\∀name,K3 name od=Ya (mA name):=by
 obtain⟨o,es,ep,ho,hd,hk,_,hm⟩:=n;refine⟨o,ho,λname=>?_⟩;have e:=hm name;unfold oF findBy at e;rw[←Array.find?_toList]at e;unfold K3;rw[hd];dsimp only;split
 .rename_i y q;rw[q]at e;exact congrArg Ya e
 .rename_i q;rw[q]at e;have a:es.toList.any (·.refKey)=false:=by
   rw[List.any_eq_false];intro y hy;obtain⟨z,t,hkey⟩:=hk y (V9.mp hy);simp[DictEntry.refKey,hkey]
  have a':¬es.toList.any (·.refKey)=true:=by rw[a];exact oG
  rw[if_neg a'];exact congrArg Ya e
theorem Oa.look{h:ao}{x dx C:Yl}{mA:aj->Option Yd}(I:Oa h x dx C mA):∃od,PySem.W.InstAt h x (wM C dx) C (Ya od)/\∀name,K3 name od=Ya (mA name):=
 let⟨od,ho,hl⟩:=ZlG I.ns
 ⟨od,⟨I.obj,rfl,rfl,ho⟩,hl⟩
noncomputable def Ob(f:aj)(v:V):List (aj×V)->List (aj×V)
 |[]=>[(f,v)]|(g,x)::r=>if g=f then(g,v)::r else(g,x)::Ob f v r
theorem lK.some_of{v:V}{o:Option Yd}(r:lK (Ya v) o):∃u,o=Ya u/\RelV v u:=by
 cases o with
 |none=>exact(show False from r).elim|some u=>exact⟨u,rfl,r⟩
section
variable {P:Yz} {w:aD} {H H':Hp} {h h':ao} {a C dx:Yl} {fs fs':List (aj×V)}
theorem ZoC(hok:cJ P w H h)(e:H a=Ya (.ins C dx fs)):∃mA,Oa h a dx C mA/\(∀f,lK (fs.lookup f) (mA f))/\PySem.Within mA (fs.map (·.1))/\fs.length<=1000/\H dx=Ya (.own a):=by obtain⟨d,z,ne,ob,mA,n,r,q⟩:=(show bR P w H h a (.ins C dx fs)from hok a _ e);exact⟨mA,⟨ob,n,ne⟩,r,q,z,d⟩
end
structure Oc(K:Yb)(C:Yl):Prop where
 pg:T4 K C mZ=true
 hd:PySem.W.hasDictIn K C=true
 po:PySem.W.plainOver K C=true
 sa:Yr K (.ref C) "__setattr__" =Ya (Ya (.builtin "object.__setattr__"))
theorem Oc.get{K:Yb}{C:Yl}(c:Oc K C)(f:aj):T4 K C f=true:=c.pg
section
variable {X:Cx} {pins:List (Yl×aq)} {σ:St} {H:Hp} {s:Yg} {a C dx:Yl} {fs:List (aj×V)} {f:aj} {v:V} {A:aU} {E:Yd->Yg->Prop}
theorem Inv.made(I:Inv X pins σ H s):Inv X pins σ (upd (upd H s.heap.objs.size (.own (s.heap.objs.size+1))) (s.heap.objs.size+1) (.ins C s.heap.objs.size []))
  {s with heap:=(s.heap.push uI).push (wM C s.heap.objs.size)}:=by
 have e1:(s.heap.push uI).get? s.heap.objs.size=Ya uI:=Yu s.heap rfl;have e2:((s.heap.push uI).push (wM C s.heap.objs.size)).get? (s.heap.objs.size+1)=Ya (wM C s.heap.objs.size):=by
  have:=Yu (s.heap.push uI) (o:=wM C s.heap.objs.size) rfl
  rwa[uV]at this
 have e3:(s.heap.push uI).Ns s.heap.objs.size (λ_=>Yi):=⟨uI,#[],_,e1,rfl,(λe he=>absurd he (by simp)),λ_=>rfl⟩;have I1:=I.laid (a:=s.heap.objs.size) (o:=.own (s.heap.objs.size+1)) (h':=s.heap.push uI) (t':=s.toks) (λb u q=>Yh _ q) (Yq _) ⟨_,e1⟩;refine I1.laid (a:=s.heap.objs.size+1) (o:=.ins C s.heap.objs.size []) (t':=s.toks) (λb u q=>Yh _ q) (w6 (uV _ _)) ?_;have ne:s.heap.objs.size≠s.heap.objs.size+1:=dM (Nat.lt_succ_self _);refine⟨by rw[Zk ne,cU],jy _,ne,e2,λ_=>Yi,(Wv e3).at λo q=>Yh _ q,λ_=>True.intro,λy hy=>absurd rfl hy⟩
theorem Zo9{prog:Yz}{w:aD}{env:b7}{e:Expr}{f:aj}{pos:aF}{s:Yg}{Q:Yd->Yg->Prop}(hb:sH e f env (aA e env)=aA e env)(h:Y1 (Y9 prog w) A (aA e env) (λo s₁=>Y1 (Y9 prog w) A (getAttr o f true) Q E s₁) E s):Y1 (Y9 prog w) A (aA (.Attribute e f pos) env) Q E s:=Attribute_any_ h (by rw[arm_eval_Attribute,hb])
end
section
variable {X:Cx} {pins:List (Yl×aq)} {σ:St} {H:Hp} {s:Yg} {A:aU} {E:Yd->Yg->Prop} {Q:Yd->Yg->Prop} {c:Yd} {b:Bool}
inductive nj(K:Yb)(H:Hp):V->Yd->Prop where
 |non:nj K H .non (.type "NoneType")
 |bl (x:Bool):nj K H (.bl x) (.type "bool")
 |int (i:Int):nj K H (.int i) (.type "int")
 |str (x:aj):nj K H (.str x) (.type "str")
 |flt (x:UInt64):nj K H (.flt x) (.type "float")
 |lst {a:Yl} {xs:List V} (e:H a=Ya (.lst xs)):nj K H (.ref a) (.type "list")
 |bA {a:Yl} {o:aq} {xs:List V} (e:H a=Ya (.bA o (.lst xs))):nj K H (.ref a) (.type "list")
 |tup {a:Yl} {xs:List V} (e:H a=Ya (.tup xs)):nj K H (.ref a) (.type "tuple")
 |dK {a:Yl} {kvs:List (Key×V)} (e:H a=Ya (.dK kvs)):nj K H (.ref a) (.type "dict")
 |dT {a:Yl} {kvs:List (List Key×V)} (e:H a=Ya (.dT kvs)):nj K H (.ref a) (.type "dict")
 | ins {a C dx:Yl} {fs:List (aj×V)} (e:H a=Ya (.ins C dx fs)) (cl:Oc K C) (ha:Yr K (.ref C) "__class__" =Ya (Ya (.builtin "object.__class__")))
   (hn:wL K (.builtin "object.__class__") "__get__" =Ya (Ya (.builtin "getset_descriptor.__get__"))) (htk:K1 K (.builtin "object.__class__")=Ya true)
   (hm:eX K C (.type "object")=Ya true):nj K H (.ref a) (.ref C)
theorem zG{x:V}{u t:Yd}(I:Inv X pins σ H s)(rx:RelV x u)(ty:nj X.K H x t)(e:K4 X.K t c=Ya b)(h:∀tk,Q (.bool b) {s with toks:=tk}):
  Y1 (Y9 X.prog X.w) A (call (.builtin "isinstance") [u,c]) Q E s:=by
 cases ty with
 |non=>cases(show u=Value.none from rx);exact kZ TX I.bF True.intro e (λz=>nomatch z) h|bl y=>cases(show u=Value.bool y from rx);exact kZ PySem.W.kitx_bool I.bF True.intro e (λz=>nomatch z) h|int i=>obtain⟨t,q⟩:=(show∃t,u=Value.int i t from rx);cases q;exact kZ PySem.W.kitx_int I.bF True.intro e (λz=>nomatch z) h|str y=>obtain⟨t,q⟩:=(show∃t,u=Value.str y t from rx);cases q;exact kZ PySem.W.kitx_str I.bF True.intro e (λz=>nomatch z) h
 |flt y=>obtain⟨t,q⟩:=(show∃t,u=Value.float y t from rx);cases q;exact kZ PySem.W.kitx_float I.bF True.intro e (λz=>nomatch z) h|@lst a xs ea=>
  cases(show u=Value.ref a from rx)
  obtain⟨_,_,n,_,h1⟩:=(show bR X.prog X.w H s.heap a (.lst xs)from I.hok a _ ea);exact kZ TY I.bF ⟨_,h1,rfl⟩ e (λz=>nomatch z) h
 | @bA a ob xs ea=>
  cases(show u=Value.ref a from rx)
  obtain⟨_,_,_,n,_,h1⟩:=(show bR X.prog X.w H s.heap a (.bA ob (.lst xs))from I.hok a _ ea);exact kZ TY I.bF ⟨_,h1,rfl⟩ e (λz=>nomatch z) h
 | @tup a xs ea=>
  cases(show u=Value.ref a from rx)
  obtain⟨_,_,_,p⟩:=(show bR X.prog X.w H s.heap a (.tup xs)from I.hok a _ ea);obtain⟨o,h1,h2,_⟩:=p;exact kZ TJ I.bF ⟨o,h1,h2.1⟩ e (λz=>nomatch z) h
 | @dK a kvs ea=>
  cases(show u=Value.ref a from rx)
  obtain⟨_,_,vs,_,p⟩:=(show bR X.prog X.w H s.heap a (.dK kvs)from I.hok a _ ea);obtain⟨o,es,ep,h1,h2,_⟩:=p;exact kZ T3 I.bF ⟨o,h1,h2.1⟩ e (λz=>nomatch z) h
 | @dT a kvs ea=>
  cases(show u=Value.ref a from rx)
  obtain⟨_,_,xs,_,o,es,ep,h1,h2,_⟩:=(show bR X.prog X.w H s.heap a (.dT kvs)from I.hok a _ ea);exact kZ T3 I.bF ⟨o,h1,h2.1⟩ e (λz=>nomatch z) h
 | @ins a C dx fs ea cl ha hn htk hm=>
  cases(show u=Value.ref a from rx)
  obtain⟨mA,O,_⟩:=ZoC I.hok ea;obtain⟨od,J,_⟩:=O.look;exact kZ (PySem.W.kitx_own (cl.get _) cl.hd ha hn htk hm) I.bF J e (λz=>nomatch z) h
end
end L2
namespace L2
open PySem PySem.Spec PyProof.Rows
structure bZ(k:Nat)(A:aU):Prop where
 hd:A.handled=Yi
 dp:A.depth+3*k+5<recursionLimit
 un:A.units+16*k+200<fV
 gd:A.guards=Ya []
variable{A:aU}
theorem bZ.mono{j k:Nat}(r:bZ k A)(h:j<=k):bZ j A:=⟨r.hd,by have:=r.dp;exact lD 2 0x251b303d0cc11303251b103d0cc11 T1 this h,by have:=r.un;omega,r.gd⟩
theorem bZ.deeper{k:Nat}(r:bZ (k+1) A)(env:b7):bZ k (A.deeper env):=⟨r.hd,by have:=r.dp;show A.depth+1+3*k+5<_;exact lC 1 0x251b103da0ccc1251ba1c03d0cc11 T1 this,by have:=r.un;show A.units+3+16*k+200<_;exact lC 1 0x2c82b110d31b0ccc12c82ba1c10d0cc11 T1 this,r.gd⟩
theorem bZ.in1{k:Nat}(r:bZ (k+1) A):bZ k A.in1:=⟨r.hd,by have:=r.dp;show A.depth+3*k+5<_;exact lC 1 0x251b103d0cc1251ba1c03d0cc11 T1 this,by have:=r.un;show A.units+1+16*k+200<_;exact lC 1 0x2c82b110da0ccc12c82ba1c10d0cc11 T1 this,r.gd⟩
variable{us:List Yd}
theorem Zkd{C:Yl}{kw:List (aj×Yd)}:(A.under (.builtin "type.__call__" ⟨.ref C::us,kw⟩)).depth=A.depth+1:=by first|rfl|simp[Hr,Code.weight,Code.isCreation,Code.isGuard,Code.isCaller,Code.frames,M_,guardIds]
theorem Zj9{C:Yl}{kw:List (aj×Yd)}:(A.under (.builtin "type.__call__" ⟨.ref C::us,kw⟩)).units=A.units+1:=by first|rfl|simp[Hr,Code.cUnits,Code.frames,M_]
theorem bZ.make{k:Nat}(r:bZ (k+1) A)(C:Yl)(us:List Yd)(kw:List (aj×Yd)):bZ k (A.under (.builtin "type.__call__" ⟨.ref C::us,kw⟩)):=⟨r.hd,by have:=r.dp;rw[Zkd];exact lC 1 0x251b103da0ccc1251ba1c03d0cc11 T1 this,by have:=r.un;rw[Zj9];exact lC 1 0x2c82b110da0ccc12c82ba1c10d0cc11 T1 this,by have:=r.gd;first|exact this|simpa[Hr,Code.isGuard,guardIds]using this⟩
theorem bZ.depth{k:Nat}(r:bZ k A):A.depth<recursionLimit:=by have:=r.dp;exact lC 1 0x201251b103d0cc11 T1 this
theorem bZ.units{k:Nat}(r:bZ k A):A.units+64<fV:=by have:=r.un;exact lC 1 0x2402b0c12c82b110d0cc11 T1 this
def Dl:TA:=λ_ H Q=>Q [] H
def zH(ta:TE)(tr:TA):TA:=λσ H Q=>ta σ H λx H1=>tr σ H1 λxs H2=>Q (x::xs) H2
section
variable {X:Cx} {e:Expr} {es:List Expr} {te:TE} {t:TA} {pos:aF}
theorem Dm:PA X [] Dl:=λ_ _ _ _ H Q I h=>V7 ⟨[],H,I,.nil,h⟩
theorem tV(ha:PE X e te)(hr:PA X es t)(hs:Yk (e::es) X.env=(false,aA e X.env)::Yk es X.env:=by rfl):PA X (e::es) (zH te t):=by intro pos pins s σ H Q I h;rw[hs];show Y1 _ _ (Gj ((false,aA e X.env)::bI pos (Yk es X.env))) _ _ s;refine V6 (aC (ha pins s σ H _ I h) λu s1 ak=>?_);obtain⟨x,H1,I1,r1,q1⟩:=ak;exact aC (hr pos pins s1 σ H1 _ I1 q1) λus s2 ⟨xs,H2,I2,r2,q2⟩=>⟨x::xs,H2,I2,.cons r1 r2,q2⟩
def ZuE(t:TA):TE:=λσ H Q=>t σ H λxs H1=>xs.length<=Y6/\∀p,H1 p=Yi->Q (.ref p) (upd H1 p (.tup xs))
def Zuh(t:TA):TE:=λσ H Q=>t σ H λxs H1=>xs.length<=Y6/\∀p,H1 p=Yi->Q (.ref p) (upd H1 p (.lst xs))
theorem Zqi{x1}(h:PA X es t):PE X (.Tuple es x1 pos) (ZuE t):=by intro pins s σ H Q I hq;refine wpAny_Tuple_spliced (aC (h pos pins s σ H _ I hq) λus s1 ⟨xs,H1,I1,r,z,q⟩=>⟨by rw[←r.length];exact z,?_⟩);have hf:H1 s1.heap.objs.size=Yi:=I1.hok.fresh (Yq _);refine⟨.ref s1.heap.objs.size,upd H1 s1.heap.objs.size (.tup xs),I1.laid (t':=s1.toks) (λb u e=>Yh _ e) (Yq _) ?_,rfl,q _ hf⟩;exact⟨z,us,r,⟨_,Yu _ rfl,⟨rfl,rfl⟩,_,rfl⟩⟩
theorem ZrG(h:PA X es t):PE X (.List es pos) (Zuh t):=by intro pins s σ H Q I hq;refine wpAny_List_spliced (aC (h pos pins s σ H _ I hq) λus s1 ⟨xs,H1,I1,r,z,q⟩=>⟨by rw[←r.length];exact z,?_⟩);have hf:H1 s1.heap.objs.size=Yi:=I1.hok.fresh (Yq _);refine⟨.ref s1.heap.objs.size,upd H1 s1.heap.objs.size (.lst xs),I1.laid (t':=s1.toks) (λb u e=>Yh _ e) (Yq _) ?_,rfl,q _ hf⟩;exact⟨z,us,0,r,Yu _ rfl⟩
end
noncomputable abbrev Sp:=List V->Hp->VK->XK->Prop
noncomputable abbrev lO:=List b7->Hp->Yg->XK->Yd->Yg->Prop
structure qy(P:Yz)(w:aD)(K:Yb)(mg:aj->Option Yd)(base:ao)(A:aU)(outer:List b7)(s:Yg)(H:Hp):Prop where
 frames:A.frames=Ya outer
 mod:Mod K mg base
 bs:∀b o,base.get? b=Ya o->s.heap.get? b=Ya o/\H b=Yi
 lM:base.objs.size<=s.heap.objs.size
 iW:s.heap.FunFrames base outer
 oK:∀b∈frs outer,H b=Yi
 hok:cJ P w H s.heap
 bare:qi s.gens
def CE(outer:List b7)(P:Yz)(w:aD)(H:Hp)(s:Yg)(Q:VK)(u:Yd)(s':Yg):Prop:=∃v H',s'.os=s.os/\qi s'.gens/\Un (frs outer) [] H H' s.heap s'.heap/\cJ P w H' s'.heap/\RelV v u/\Q v H'
def CR(CX:lO)(outer:List b7)(P:Yz)(w:aD)(H:Hp)(s:Yg)(Q:VK)(E:XK)(r:sS)(s':Yg):Prop:=
 match r with
 | .ok (.ret u)=>CE outer P w H s Q u s'|.ok _=>False|.error e=>CX outer H s E e s'
structure dN(P:Yz)(w:aD)(K:Yb)(mg:aj->Option Yd)(base:ao)(CX:lO)(k:Nat)(f:Yl)(fd:fC)(ps:List aj)(sp:Sp):Prop where
 len:∀vs H Q E,sp vs H Q E->vs.length=ps.length
 run:∀(A:aU) (outer:List b7) (s:Yg) (H:Hp) (args:Args) (us:List Yd) (vs:List V) (Q:VK) (E:XK),bZ k A->qy P w K mg base A outer s H->yW s fd args (ps.zip us)->Vals vs us->sp vs H Q E ->
  mU (Y9 P w) A (.call (.ref f) args) (CR CX outer P w H s Q E) s
variable{K:Yb}{base:ao}{ps:List aj}{P:Yz}{mg:aj->Option Yd}{w:aD}
theorem dN.imp{CX:lO}{k:Nat}{f:Yl}{fd:fC}{sp Xp:Sp}(F:dN P w K mg base CX k f fd ps sp)(h:∀vs H Q E,Xp vs H Q E->sp vs H Q E):dN P w K mg base CX k f fd ps Xp:=⟨λvs H Q E q=>F.len vs H Q E (h _ _ _ _ q),λA outer s H args us vs Q E hr he hb hv hs=>F.run A outer s H args us vs Q E hr he hb hv (h _ _ _ _ hs)⟩
variable{outer:List b7}
theorem qy.make{s:Yg}{H:Hp}(e:qy P w K mg base A outer s H)(C:Yl)(us:List Yd)(kw:List (aj×Yd)):
  qy P w K mg base (A.under (.builtin "type.__call__" ⟨.ref C::us,kw⟩)) outer s H:=⟨by first|exact e.frames|(simpa[Hr,Code.envs,M_,pushEnvs]using e.frames),e.mod,e.bs,e.lM,e.iW,e.oK,e.hok,e.bare⟩
theorem qy.in1{s:Yg}{H:Hp}(e:qy P w K mg base A outer s H):
  qy P w K mg base A.in1 outer s H:=⟨e.frames,e.mod,e.bs,e.lM,e.iW,e.oK,e.hok,e.bare⟩
section
variable {X:Cx} {pins:List (Yl×aq)} {σ:St} {H:Hp} {s s':Yg}
theorem Inv.env0(I:Inv X pins σ H s):qy X.prog X.w X.K X.mg X.base X.A X.stack s H:=⟨I.ok.frames,I.ok.mod,I.bs,Ys I.ok.lM I.sz,I.stack,I.Fj,I.hok,I.bare⟩
theorem Inv.after{Q:VK}{u:Yd}(I:Inv X pins σ H s)(h:CE X.stack X.prog X.w H s Q u s'):EP X pins σ Q u s':=by obtain⟨v,H',os,bare,un,hok,r,q⟩:=h;obtain⟨hh,g,d,t,os'⟩:=s';obtain rfl:os'=s.os:=os;exact⟨v,H',I.call (h':=hh) (g':=g) (d':=d) (t':=t) (ch:=[]) un hok bare (λb z=>absurd z (by simp)),r,q⟩
end
def Xq(sp:Sp)(qz:List V)(E:XK)(t:TA):TE:=λσ H Q=>t σ H λvs H1=>sp (vs++qz) H1 Q E
def Binds(K:Yb)(fd:fC)(ps:List aj)(ds:List Yd):Prop:=∀(s:Yg) (us:List Yd),K.In s.heap->(us++ds).length=ps.length->yW s fd ⟨us,[]⟩ (ps.zip (us++ds))
theorem Binds.all{fd:fC}(h:∀us:List Yd,us.length=ps.length->bindArgs fd ⟨us,[]⟩=pure (ps.zip us)):Binds K fd ps []:=λs us _ hl=>by rw[gW]at hl ⊢;exact .of_eq (h us hl)
def Ib(CX:lO)(X:Cx)(E:XK):Prop:=∀(pins:List (Yl×aq)) (σ:St) (H:Hp) (s:Yg) (e:Yd) (s':Yg),Inv X pins σ H s->CX X.stack H s E e s'->X.xe e s'
section
variable {X:Cx} {CX:lO} {k:Nat} {f C:Yl} {fd:fC} {ps:List aj} {sp:Sp} {qz:List V} {ds:List Yd} {E:XK} {x m:aj} {p pos apos:aF} {e o:Expr} {es:List Expr} {ta:TE} {t:TA}
theorem Xr{pins:List (Yl×aq)}{σ:St}{H:Hp}{s:Yg}{Q:VK}{vs:List V}(F:dN X.prog X.w X.K X.mg X.base CX k f fd ps sp)(hr:bZ k X.A)(hb:Binds X.K fd ps ds)(hd:Vals qz ds)(hx:Ib CX X E)(I:Inv X pins σ H s)(r:Vals vs us)(h:sp (vs++qz) H Q E):Y1 (Y9 X.prog X.w) X.A (call (.ref f) us) (EP X pins σ Q) X.xe s:=by
 have r2:Vals (vs++qz) (us++ds):=r.append hd;have hl:(us++ds).length=ps.length:=by rw[←r2.length];exact F.len _ _ _ _ h
 refine p6 (sI (F.run X.A X.stack s H ⟨us,[]⟩ (us++ds) (vs++qz) Q E hr I.env0 (hb s us I.bF hl) r2 h) λr s' hq=>?_);cases r with
 |error e=>exact hx pins σ H s e s' I hq|ok fl=>
  cases fl with
  |ret u=>exact I.after hq|next=>exact dg hq|brk=>exact dg hq|cont=>exact dg hq
theorem Zop(F:dN X.prog X.w X.K X.mg X.base CX k f fd ps sp)(hr:bZ k X.A)(hg:Gl X x)(hm:X.mg x=Ya (.ref f))(hk:uJ X.K (.ref f)=true)(hb:Binds X.K fd ps ds)(hd:Vals qz ds)(hx:Ib CX X E)(ha:PA X (e::es) t)(hdb:(x==("__debug__":aj))=false:=by decide)(he:Yk (e::es) X.env=(false,aA e X.env)::Yk es X.env:=by rfl)(hpl:(bI pos (Yk es X.env)).any (·.1)=false:=by rfl):
  PE X (.Call (.Name x p) (e::es) [] pos) (Xq sp qz E t):=by
 intro pins s σ H Q I h;refine yM (qw I hg hm ?_ hdb);refine TV (h₀:=X.base) I.ok.mod.vg hk (aC (ha pos pins s σ H _ I h) λus s1 ⟨vs,H1,I1,r,q⟩=>⟨I1.bF,?_⟩) he hpl;exact Xr F hr hb hd hx I1 r q
theorem Zl2(F:dN X.prog X.w X.K X.mg X.base CX k f fd ps sp)(hr:bZ k X.A)(hg:Gl X x)(hm:X.mg x=Ya (.ref f))(hk:uJ X.K (.ref f)=true)(hb:Binds X.K fd ps ds)(hd:Vals qz ds)(hx:Ib CX X E)(hdb:(x==("__debug__":aj))=false:=by decide):PE X (.Call (.Name x p) [] [] pos) (Xq sp qz E Dl):=by intro pins s σ H Q I h;refine yM (qw I hg hm ?_ hdb);exact PySem.W.callWith_K0 I.bF hk (Xr (us:=[]) F hr hb hd hx I .nil h)
end
def PK(X:Cx)(kws:List Keyword)(t:TA):Prop:=∀(pos:aF) (pins:List (Yl×aq)) (s:Yg) (σ:St) (H:Hp) (Q:List V->Hp->Prop),Inv X pins σ H s->t σ H Q->Y1 (Y9 X.prog X.w) X.A (evalAll ((ju pos (jt kws X.env)).map (·.2))) (AP X pins σ Q) X.xe s
section
variable {X:Cx} {CX:lO} {k:Nat} {f C:Yl} {fd:fC} {ps ks:List aj} {sp:Sp} {E:XK} {x m:aj} {p pos apos kpos:aF} {e o:Expr} {es:List Expr} {kws:List Keyword} {te ta:TE} {t tk:TA} {nm:Option aj}
theorem Zq7:PK X [] Dl:=λ_ _ _ _ H Q I h=>wpAny_evalAll_nil ⟨[],H,I,.nil,h⟩
theorem ZoM(ha:PE X e te)(hr:PK X kws t):PK X (⟨nm,e,kpos⟩::kws) (zH te t):=by intro pos pins s σ H Q I h;show Y1 _ _ (evalAll ((do let v ←aA e X.env;yV pos;pure v)::(ju pos (jt kws X.env)).map (·.2))) _ _ s;refine wpAny_evalAll_cons (Yc (aC (ha pins s σ H _ I h) λu s1 ⟨x,H1,I1,r1,q1⟩=>Yc (pZ (Ym ?_))));exact aC (hr pos pins s1 σ H1 _ I1 q1) λus s2 ⟨xs,H2,I2,r2,q2⟩=>⟨x::xs,H2,I2,.cons r1 r2,q2⟩
variable {g:List Yd->List Yd->List Yd} {gV:List V->List V->List V}
end
structure dY(N P:List aj)(sc:Scope):Prop where
 kind:sc.kind= .function
 co:sc.isCoroutine=false
 gen:sc.isGenerator=false
 nd:N.Nodup
 pre:N.take P.length=P
 Xu:∀x∈P,sc.names.lookup x=Ya .local\/sc.names.lookup x=Ya .cell
 AgG:∀y∈sc.names,y.2≠ .free
theorem Xv{jU:aj->Option NameKind}{x:aj}:∀{binds:List (aj×Yd)} {m:aj->Option Yd},(∀v,(x,v)∉binds)->uT jU binds m x=m x
 |[],_,_=>rfl|(n,v)::r,m,h=>by
  unfold uT;rw[Xv λw hw=>h w (Yx _ hw)];split
  .have:x≠n:=by rintro rfl;exact h v Y0
   simp[this]
  .rfl
theorem Xw{jU:aj->Option NameKind}{x:aj}:∀{binds:List (aj×Yd)} {m:aj->Option Yd},(∀v,(x,v)∉binds)->uU jU binds m x=m x
 |[],_,_=>rfl|(n,v)::r,m,h=>by
  unfold uU;rw[Xw λw hw=>h w (Yx _ hw)];split
  .rfl
  .have:x≠n:=by rintro rfl;exact h v Y0
   simp[this]
theorem Xx{jU:aj->Option NameKind}{x:aj}{v:Yd}:∀{P:List aj} {vs:List Yd} {i:Nat} {m:aj->Option Yd},P.Nodup->P[i]?=Ya x->vs[i]?=Ya v->jU x=Ya .local ->
  uT jU (P.zip vs) m x=Ya v
 |[],_,_,_,_,h,_,_=>by simp at h|_::_,[],_,_,_,_,h,_=>by simp at h|p::P,w::vs,0,m,nd,h1,h2,hk=>by simp at h1 h2;subst h1;subst h2;show uT jU ((p,w)::P.zip vs) m p=_;unfold uT;rw[Xv λv hv=>(Gx.mp nd).1 (Gy hv).1,if_pos hk];simp|p::P,w::vs,i+1,m,nd,h1,h2,hk=>by show uT jU ((p,w)::P.zip vs) m x=_;unfold uT;exact Xx (i:=i) (Gx.mp nd).2 (by simpa using h1) (by simpa using h2) hk
theorem Xy{jU:aj->Option NameKind}{x:aj}{v:Yd}:∀{P:List aj} {vs:List Yd} {i:Nat} {m:aj->Option Yd},P.Nodup->P[i]?=Ya x->vs[i]?=Ya v->jU x≠Ya .local ->
  uU jU (P.zip vs) m x=Ya v
 |[],_,_,_,_,h,_,_=>by simp at h|_::_,[],_,_,_,_,h,_=>by simp at h|p::P,w::vs,0,m,nd,h1,h2,hk=>by simp at h1 h2;subst h1;subst h2;show uU jU ((p,w)::P.zip vs) m p=_;unfold uU;rw[Xw λv hv=>(Gx.mp nd).1 (Gy hv).1,if_neg hk];simp|p::P,w::vs,i+1,m,nd,h1,h2,hk=>by show uU jU ((p,w)::P.zip vs) m x=_;unfold uU;exact Xy (i:=i) (Gx.mp nd).2 (by simpa using h1) (by simpa using h2) hk
noncomputable def start(N:List aj)(vs:List V):St:=vs.map Ya++Yt (N.length-vs.length) Yi
noncomputable def lQ(CX:lO)(P:Yz)(w:aD)(K:Yb)(mg:aj->Option Yd)(base:ao)(N:List aj)(qual:aj)(scope:Scope)(f:Yl)(cd:Yd)(A:aU)(outer:List b7)(s:Yg)(H:Hp)(E:XK):Cx where
 prog:=P
 w:=w
 K:=K
 mg:=mg
 base:=base
 A:=A.deeper (jz qual scope s.heap.objs.size f cd)
 N:=N
 s₀:=s
 H₀:=H
 env:=jz qual scope s.heap.objs.size f cd
 outer:=outer
 stack:=jz qual scope s.heap.objs.size f cd::outer
 ex:=[]
 calm:=true
 fn:=λ_=>true
 pn:=[]
 xe:=λe s'=>Y1 (Y9 P w) (A.deeper (jz qual scope s.heap.objs.size f cd)) (Gm (jz qual scope s.heap.objs.size f cd) e) (λ_ s''=>CX outer H s E e s'') (λe' s''=>CX outer H s E e' s'') s'
theorem Xz{sc:Scope}{n:Nat}{x:aj}(h:sc.names.lookup x=Ya .cell):∃c,(Ls n sc.names []).lookup x=Ya c:=by have q:=Tw sc.names n [] (.inl h);exact Fx.mp q
theorem Zlt{CX:lO}{N:List aj}{qual:aj}{scope:Scope}{f:Yl}{cd:Yd}{s s1:Yg}{H:Hp}{E:XK}{vs:List V}(S:dY N ps scope)(hd:A.handled=Yi)(e0:qy P w K mg base A outer s H)(hl:vs.length=ps.length)(r:Vals vs us)(x:InCallC s s.heap.objs.size (uT (jz qual scope s.heap.objs.size f cd).kindOf (ps.zip us) λ_=>Yi) (Ls (s.heap.objs.size+1) scope.names []) (uU (jz qual scope s.heap.objs.size f cd).kindOf (ps.zip us) λ_=>Yi) s1):
  Inv (lQ CX P w K mg base N qual scope f cd A outer s H E) [] (start N vs) H s1:=by
 have hpl:ps.length<=N.length:=by have:=congrArg tD S.pre;rw[sX]at this;omega
 obtain⟨h1,tk,rfl,hk⟩:=x.done;have Dn:∀b:Yl,b∉(lQ CX P w K mg base N qual scope f cd A outer s H E).ex:=λb z=>absurd (show b∈([]:List Yl)from z) (by simp);refine⟨⟨e0.mod,S.kind,rfl,rfl,Yq _,λy z c h1 h2=>?_,λy hy=>?_,λy c _ h=>?_,λ_=>hd,Around.frames_deeper e0.frames,.inr ⟨rfl,rfl⟩,λb z=>absurd z (Dn b),e0.bs,e0.lM,λb _ _=>Dn b,λb z=>absurd z (Dn b),e0.iW,e0.oK⟩,
  rfl,e0.bare,Un.kept hk,⟨_,x.toInCall.ns,λi y v h1 h2 h3=>?_⟩,λy c h=>⟨_,x.cell y c h⟩,e0.hok.fresh (Yq _),λy c h=>?_,λp hp=>absurd (show p∈([]:List (Yl×aq))from hp) (by simp),e0.hok.kept hk,?_⟩
 .exact name_of_addr x.apart (sG h1) (sG h2)
 .have hy:scope.names.lookup y=Ya .cell\/scope.names.lookup y=Ya .free:=hy;rcases hy with hy|hy
  .exact Xz hy
  .exact absurd rfl (S.AgG _ (sG hy))
 .exact Mg (x.above y c (sG h))
 .have hi:i<vs.length:=by
   unfold start at h2;by_cases hi:i<vs.length
   .exact hi
   .rw[wX (by simpa using hi)]at h2;rw[Gr]at h2;split at h2<;>cases h2
  have ha:vs[i]?=Ya v:=by
   unfold start at h2;rw[Y7 (by simpa using hi),gn]at h2;cases e:vs[i]? with
   |none=>rw[e]at h2;cases h2|some a=>rw[e]at h2;cases h2;rfl
  obtain⟨u,hu,rv⟩:=r.get ha;have hp:ps[i]?=Ya y:=by rw[←S.pre,Gq (by exact lC 2 2203874037777 T1 hi hl)];exact h1
  have XC:ps.Nodup:=by rw[←S.pre];exact S.nd.sublist (U3 _ _)
  refine⟨u,rv,?_⟩;rcases S.Xu y (uX hp)with k|k
  .exact .inl ⟨k,Xx XC hp hu k⟩
  .obtain⟨c,e⟩:=Xz (n:=s.heap.objs.size+1) k;refine .inr ⟨.inl k,c,e,?_⟩;have q:=x.cell y c e;rw[Xy XC hp hu (by show scope.names.lookup y≠_;rw[k];decide)]at q;exact q
 .exact e0.hok.fresh (Mg (x.above y c (sG h)))
 .unfold start;show _=N.length;rw[Y4,Yn,Uz];exact eZ (lC 1 2206541614113 T1 (p8 (lC 2 1236986302465 T1 hpl hl))) (lC 1 1288492400641 T1 (qp _ _))
theorem Ie{CX:lO}{k:Nat}{f:Yl}{name qual:aj}{params:Arguments}{body:List Ydr}{scope:Scope}{dV kV doc pm cdv ct oc:Yd}{an od:Option Yl}{osl:Array (Option Yd)}{N:List aj}{sp:Sp}(lk:K.lookup f=Ya ⟨oc,od,.func (pY name qual params body scope dV kV doc pm an cdv ct),osl⟩)(hcd:BK K cdv qual=true)(S:dY N ps scope)(len:∀vs H Q E,sp vs H Q E->vs.length=ps.length)(hbody:∀(A:aU) (outer:List b7) (s:Yg) (H:Hp) (vs:List V) (Q:VK) (E:XK),bZ k (A.deeper (jz qual scope s.heap.objs.size f cdv))->sp vs H Q E ->
   ∃t,gJ (lQ CX P w K mg base N qual scope f cdv A outer s H E) body t/\t {nx:=λ_ H'=>Q .non H',rt:=Q} (start N vs) H):
  dN P w K mg base CX (k+1) f (pY name qual params body scope dV kV doc pm an cdv ct) ps sp:=by
 refine⟨len,λA outer s H args us vs Q E hr e0 hb r hsp=>?_⟩;have hl:=len _ _ _ _ hsp;have KX:K.In s.heap:=e0.mod.vg.keeps λb o e=>(e0.bs b o e).1;have lim:s.heap.NoLimit:=e0.mod.nolimit.keeps λb o e=>(e0.bs b o e).1;have hkind:∀y∈ps.zip us,scope.names.lookup y.1=Ya .local\/(scope.names.lookup y.1=Ya .cell/\((Ls (s.heap.objs.size+1) scope.names []).lookup y.1).isSome=true):=λ⟨n,v⟩ hy=>by
  rcases S.Xu n (Gy hy).1 with q|q
  .exact .inl q
  .exact .inr ⟨q,Tw _ _ _ (.inl q)⟩
 refine codeAny_call_function hr.depth (KX _ _ lk) rfl S.co S.gen rfl (PySem.W.codeRec_of KX hcd) (hb _ _ _ _ ?_);refine wpAny_newFunctionEnv_cells S.kind hkind λenv he s1 x=>?_;subst he;refine⟨lim.keeps x.toInCall.keep,codeAny_func ?_⟩;obtain⟨t,ht,hq⟩:=hbody A outer s H vs Q E (hr.deeper _) hsp;have I:Inv (lQ CX P w K mg base N qual scope f cdv A outer s H E) [] (start N vs) H s1:=Zlt S hr.hd e0 hl r x;refine dw (ht [] s1 (start N vs) H _ I hq) (λfl s' hs=>?_) λe s' hs=>hs;have fin:∀{σ':St} {H':Hp} {v:V} {u:Yd},Inv (lQ CX P w K mg base N qual scope f cdv A outer s H E) [] σ' H' s'->RelV v u->Q v H'->CE outer P w H s Q u s':=λ{σ' H' v u} J rv q=>⟨v,H',J.os,J.bare,J.base,J.hok,rv,q⟩;cases fl with
 |ret u=>obtain⟨v,σ',H',J,rv,q⟩:=hs;exact fin J rv q|next=>obtain⟨σ',H',J,q⟩:=hs;exact fin (v:=V.non) (u:=Value.none) J rfl q|brk=>obtain⟨_,_,_,q⟩:=hs;exact dg q|cont=>obtain⟨_,_,_,q⟩:=hs;exact dg q
end L2
namespace L2
open PySem PySem.Spec PyProof.Rows
section
variable {X:Cx} {x:aj} {p pos:aF} {e:Expr} {es:List Expr} {t:TA} {id T:String} {r:List V->Hp->VK->Prop}
def zJ(r:List V->Hp->VK->Prop)(t:TA):TE:=λσ H Q=>t σ H λvs H1=>r vs H1 Q
theorem Od(hc:cj X (.builtin id) r)(hg:Gl X x)(hm:X.mg x=Yi)(hv:fQ x=Ya (.builtin id))(ha:PA X (e::es) t)(hn:x≠ "__name__":=by decide)(hdb:(x==("__debug__":aj))=false:=by decide)(he:Yk (e::es) X.env=(false,aA e X.env)::Yk es X.env:=by rfl)(hpl:(bI pos (Yk es X.env)).any (·.1)=false:=by rfl):PE X (.Call (.Name x p) (e::es) [] pos) (zJ r t):=by intro pins s σ H Q I h;refine yM (zF I hg hm hv ?_ hn hdb);exact VL (aC (ha pos pins s σ H _ I h) λus s1 ⟨vs,H1,I1,r1,q1⟩=>hc pins s1 σ H1 vs us Q I1 r1 q1) he hpl
theorem ZlK(hc:cj X (.type T) r)(hg:Gl X x)(hm:X.mg x=Yi)(hv:fQ x=Ya (.type T))(ha:PA X (e::es) t)(hn:x≠ "__name__":=by decide)(hdb:(x==("__debug__":aj))=false:=by decide)(he:Yk (e::es) X.env=(false,aA e X.env)::Yk es X.env:=by rfl)(hpl:(bI pos (Yk es X.env)).any (·.1)=false:=by rfl):PE X (.Call (.Name x p) (e::es) [] pos) (zJ r t):=by intro pins s σ H Q I h;refine yM (zF I hg hm hv ?_ hn hdb);exact MK (aC (ha pos pins s σ H _ I h) λus s1 ⟨vs,H1,I1,r1,q1⟩=>hc pins s1 σ H1 vs us Q I1 r1 q1) he hpl
end
end L2
namespace HT
open PySem PyProof.Rows
section
variable {prog:Yz} {w:aD} {A:aU} {E:Yd->Yg->Prop} {s:Yg}
theorem Ags{t b:Yl}{vs ws:List Yd}{Q:Yd->Yg->Prop}(ht:IsTup s.heap t vs.toArray)(hb:IsTup s.heap b ws.toArray)(hv:vs≠[])(h1:ws=[]->Q (.ref t) s)(h2:ws≠[]->Q (.ref s.heap.objs.size) {s with heap:=s.heap.push {cls:=.type "tuple",data:=.seq (vs++ws).toArray}})(hsz:vs.length+ws.length<=Y6):Y1 (Y9 prog w) A (iB .Add (.ref t) (.ref b)) Q E s:=by
 obtain⟨⟨cls,dd,data,sl⟩,ho,hc,n,hd⟩:=id ht;obtain⟨⟨cls2,dd2,data2,sl2⟩,ho2,hc2,n2,hd2⟩:=id hb;simp only at hc hd hc2 hd2;subst hc hd hc2 hd2;have e:vs.toArray++ws.toArray=(vs++ws).toArray:=by simp
 by_cases hw:ws=[]
 .exact Lf ⟨_,ho,rfl⟩ ⟨_,ho2,rfl⟩ La Le Mp Mm (Ml _ _)
   (tuple_addW1 t b vs.toArray ws.toArray n n2 dd dd2 sl sl2 (by simpa using hv) (by simp[hw])) ⟨ho,ho2,h1 hw⟩
 .refine Lf ⟨_,ho,rfl⟩ ⟨_,ho2,rfl⟩ La Le Mp Mm (Ml _ _)
   (tuple_addW2 t b vs.toArray ws.toArray n n2 dd dd2 sl sl2 (by simpa using hv) (by simpa using hw) (by rw[Yo,Yo];exact hsz)) ⟨ho,ho2,?_⟩
  rw[e];exact h2 hw
noncomputable def au(n d:Nat):Option Int->Nat
 |none=>d|some v=>if v<0 then(v+(n:Int)).toNat else fG v.toNat n
theorem Oe(n d:Nat):au n d Yi=d:=rfl
theorem Dp(n d k:Nat):au n d (Ya (k:Int))=fG k n:=by show(if(k:Int)<0 then((k:Int)+(n:Int)).toNat else fG (k:Int).toNat n)=fG k n;rw[if_neg (MJ.2 (xg _)),G7]
theorem Ig(n d:Nat)(hd:d<=n)(o:Option Int):au n d o<=n:=by
 cases o with
 |none=>exact hd|some v=>
  show(if v<0 then(v+(n:Int)).toNat else fG v.toNat n)<=n;by_cases hv:v<0
  .rw[if_pos hv];omega
  .rw[if_neg hv];exact Cm _ _
theorem XD(v:Int)(n d:Nat):(if v<0 then max (v+(n:Int)) 0 else fG v (n:Int))=((au n d (Ya v):Nat):Int):=by
 show(if v<0 then max (v+(n:Int)) 0 else fG v (n:Int))=(((if v<0 then(v+(n:Int)).toNat else fG v.toNat n):Nat):Int);by_cases hv:v<0
 .simp only[if_pos hv];exact WP _
 .simp only[if_neg hv];exact WQ _ _ hv
theorem ZjH(lo hi:Option Int)(n:Nat):M6 lo hi 1 (n:Int)=(((au n 0 lo:Nat):Int),((au n n hi:Nat):Int)):=by
 have h1:¬((1:Int)<0):=by decide
 unfold M6;simp only[h1,if_false];refine Prod.ext ?_ ?_
 .cases lo with
  |none=>rfl|some v=>exact XD v n 0
 .cases hi with
  |none=>rfl|some v=>exact XD v n n
theorem ZjX(i j:Nat):Hl (i:Int) (j:Int) 1=j-i:=by
 unfold Hl;have h1:(1:Int)>0:=by decide
 simp only[h1,if_true,Int.ediv_one];split <;>omega
theorem XF{v:Yd}{o:Option Int}{Q:Option Int->Yg->Prop}(p:IsPart v o)(h:Q o s):Y1 (Y9 prog w) A (Builtin.Slice.slicePartIndex v) Q E s:=by
 cases p with
 |none=>exact slicePart_none h|int i t=>exact slicePart_int h
theorem Rm{sl:Yl}{vl vu:Yd}{lo hi:Option Int}{n:Nat}{Q:Int×Int×Nat->Yg->Prop}(hs:s.heap.IsSliceOf sl vl vu .none)(pl:IsPart vl lo)(pu:IsPart vu hi)(h:Q (((au n 0 lo:Nat):Int),1,au n n hi-au n 0 lo) s):Y1 (Y9 prog w) A (Wa (.ref sl) (pure (n:Int))) Q E s:=by obtain⟨os,hos,hcs,hds⟩:=id hs;unfold Wa Builtin.Slice.sliceFields;refine Yc (Yc (fU hos hds (x:=vl) rfl (Yc (fU hos hds (x:=vu) rfl (Yc (fU hos hds (x:=.none) rfl (Ym ?_)))))));refine Yc (slicePart_none ?_);show Y1 _ _ (if((1:Int)==0)=true then _ else _) _ _ s;rw[if_neg (by decide)];refine Yc (XF pl (Yc (XF pu (Yc (Ym ?_)))));show Y1 _ _ (match M6 lo hi 1 (n:Int)with|(lo,hi)=>pure (lo,(1:Int),Hl lo hi 1)) _ _ s;rw[ZjH lo hi n];show Y1 _ _ (pure (((au n 0 lo:Nat):Int),(1:Int),Hl ((au n 0 lo:Nat):Int) ((au n n hi:Nat):Int) 1)) _ _ s;rw[ZjX];exact Ym h
theorem ZmZ(xs:Array Yd)(i k:Nat):((jx k).filterMap λ(m:Nat)=>xs[((i:Int)+(m:Int)*1).toNat]?).toArray=((xs.toList.drop i).take k).toArray:=by
 have e:(λ(m:Nat)=>xs[((i:Int)+(m:Int)*1).toNat]?)=λm=>xs[i+m]?:=by
  funext m;have:((i:Int)+(m:Int)*1).toNat=i+m:=by omega
  rw[this]
 rw[e];have:=pick_run xs i k;rw[List.filterMap_map]at this;have e2:((λx=>xs[x]?) ∘ λx=>i+x)=λm=>xs[i+m]?:=rfl;rw[e2]at this;rw[this]
theorem Aay{t sl:Yl}{items:Array Yd}{vl vu:Yd}{lo hi:Option Int}{Q:Yd->Yg->Prop}(ht:IsTup s.heap t items)(hs:s.heap.IsSliceOf sl vl vu .none)(pl:IsPart vl lo)(pu:IsPart vu hi)(hw:¬(au items.size 0 lo=0/\au items.size items.size hi=items.size))(h:Q (.ref s.heap.objs.size) {s with heap:=s.heap.push {cls:=.type "tuple",data:=.seq ((items.toList.drop (au items.size 0 lo)).take (au items.size items.size hi-au items.size 0 lo)).toArray}})(hsz:items.size<=Y6):Y1 (Y9 prog w) A (mV (.ref t) (.ref sl)) Q E s:=by
 have Ft:sizeOk (.seq ((items.toList.drop (au items.size 0 lo)).take (au items.size items.size hi-au items.size 0 lo)).toArray):=by show((items.toList.drop (au items.size 0 lo)).take (au items.size items.size hi-au items.size 0 lo)).toArray.size<=Y6;rw[Yo,sX,Gw,MT];exact lD 3 85606880155602945 T1 hsz (GX _ _) (Cm _ _)
 have hj:au items.size items.size hi<=items.size:=Ig _ _ (Yq _) hi;obtain⟨os,hos,hcs,hds⟩:=id hs;have hTs:s.TypeIs (.ref sl) "slice":=⟨os,hos,hcs⟩;unfold mV
 try with_reducible refine fP ?_
 first|refine Yc (Ym ?_)|skip
 refine Yc (K9 ht.typeIs (by decide) ?_);refine Yc (uM (name:=jd "__getitem__") ht.typeIs Hh
  (uO Hh ht.typeIs V0 ?_ (V2 _ _)))
 show Y1 _ _ (Wb (.ref t)>>=_) _ _ s;refine Yc (tupleItemsOf_ ht ?_);refine Yc (Gb hTs ?_);rw[if_pos (by decide)];refine Yc (Rm hs pl pu ?_);have hno:¬((((au items.size 0 lo:Nat):Int)==0&&(1:Int)==1&&(au items.size items.size hi-au items.size 0 lo)==items.size)=true):=by intro q;rw[gq,gq]at q;have q1:((au items.size 0 lo:Nat):Int)=0:=eq_of_beq q.1.1;have q2:au items.size items.size hi-au items.size 0 lo=items.size:=eq_of_beq q.2;exact hw ⟨by exact eZ (iN [_] [] 1 3759016097 T1 q1) (jy _),by exact eZ hj (lC 2 2268279672881 T1 q2 (GX _ _))⟩
 show Y1 _ _ (if(((au items.size 0 lo:Nat):Int)==0&&(1:Int)==1&&(au items.size items.size hi-au items.size 0 lo)==items.size)=true then _ else _) _ _ s;rw[if_neg hno,ZmZ]
 first
  |exact Yc (m:=Ho _) (uN (Ym ⟨_,rfl,Ym h⟩) Ft)
  |exact Yc (m:=Ho _) (uN (Yc (Ym (Ym ⟨_,rfl,Ym h⟩))) Ft)
  |exact Yc (Yc (m:=Ho _) (uN (Ym (Ym ⟨_,rfl,Ym h⟩)) Ft))
  |exact Yc (Yc (m:=Ho _) (uN (Ym ⟨_,rfl,Ym h⟩) Ft))
end
end HT
namespace L2
open PySem PySem.Spec PyProof.Rows
noncomputable abbrev TO:=St->Hp->(Option Int->Hp->Prop)->Prop
def PO(X:Cx)(e:Option Expr)(t:TO):Prop:=
 ∀(pins:List (Yl×aq)) (s:Yg) (σ:St) (H:Hp) (Q:Option Int->Hp->Prop),Inv X pins σ H s->t σ H Q ->
  Y1 (Y9 X.prog X.w) X.A (evalPart e X.env) (λu s'=>∃o H',Inv X pins σ H' s'/\IsPart u o/\Q o H') X.xe s
def Zo7:TO:=λ_ H Q=>Q Yi H
def Zsy(t:TE):TO:=λσ H Q=>t σ H λx H1=>∃i,x= .int i/\Q (Ya i) H1
section
variable {X:Cx} {e:Expr} {te:TE} {lo hi:Option Expr} {tl th:TO} {pos p2:aF}
theorem Zou:PO X Yi Zo7:=by intro pins s σ H Q I h;rw[evalPart_none];exact Ym ⟨Yi,H,I,.none,h⟩
theorem ZoN(h:PE X e te):PO X (Ya e) (Zsy te):=by intro pins s σ H Q I hw;rw[evalPart_some];refine aC (h pins s σ H _ I hw) λu s1 ak=>?_;obtain⟨x,H1,I1,r1,q1⟩:=ak;obtain⟨i,rfl,q⟩:=q1;obtain⟨t,rfl⟩:=r1;exact⟨Ya i,H1,I1,.int i t,q⟩
def gY(X:Cx)(r:V->Option Int->Option Int->Hp->VK->Prop):Prop:=
 ∀(pins:List (Yl×aq)) (s:Yg) (σ:St) (H:Hp) (x:V) (v vl vu:Yd) (lo hi:Option Int) (sl:Yl) (Q:VK),Inv X pins σ H s->RelV x v->s.heap.IsSliceOf sl vl vu .none->IsPart vl lo->IsPart vu hi->r x lo hi H Q ->
  ∃T id,Lp (.type T) "__getitem__" =pure (Ya (.builtin id))/\s.TypeIs v T/\Y1 (Y9 X.prog X.w) X.A (mV v (.ref sl)) (EP X pins σ Q) X.xe s
theorem gY.or{r r':V->Option Int->Option Int->Hp->VK->Prop}(h:gY X r)(h':gY X r'):gY X (λx lo hi H Q=>r x lo hi H Q\/r' x lo hi H Q):=by
 intro pins s σ H x v vl vu lo hi sl Q I rx hs pl pu q;rcases q with q|q
 .exact h pins s σ H x v vl vu lo hi sl Q I rx hs pl pu q
 .exact h' pins s σ H x v vl vu lo hi sl Q I rx hs pl pu q
def tSl(r:V->Option Int->Option Int->Hp->VK->Prop)(te:TE)(tl th:TO):TE:=λσ H Q=>te σ H λx H1=>tl σ H1 λl H2=>th σ H2 λu H3=>r x l u H3 Q
theorem ZmO{r:V->Option Int->Option Int->Hp->VK->Prop}(hr:gY X r)(he:PE X e te)(hl:PO X lo tl)(hu:PO X hi th):PE X (.Subscript e (.Slice lo hi Yi p2) pos) (tSl r te tl th):=by intro pins s σ H Q I h;refine MP (aC (he pins s σ H _ I h) λv s1 ak=>?_);obtain⟨x,H1,I1,r1,q1⟩:=ak;refine wpAny_Slice (aC (hl pins s1 σ H1 _ I1 q1) λvl s2 ⟨l,H2,I2,pl,q2⟩=>aC (hu pins s2 σ H2 _ I2 q2) λvu s3 ak=>?_);obtain⟨u,H3,I3,pu,q3⟩:=ak;rw[evalPart_none];refine Ym ?_;have I4:Inv X pins σ H3 {s3 with heap:=s3.heap.push {cls:=.type "slice",data:=.fields #[vl,vu,.none]}}:=I3.kept (t':=s3.toks) λb ob q=>Yh _ q;obtain⟨T,id,hT,ht,hg⟩:=hr pins {s3 with heap:=s3.heap.push {cls:=.type "slice",data:=.fields #[vl,vu,.none]}} σ H3 x v vl vu l u s3.heap.objs.size Q I4 r1 (Heap.IsSliceOf.new ..) pl pu q3;show Y1 (Y9 X.prog X.w) X.A (MN e (.Slice lo hi Yi p2) v (.ref s3.heap.objs.size)) (EP X pins σ Q) X.xe {s3 with heap:=s3.heap.push {cls:=.type "slice",data:=.fields #[vl,vu,.none]}};exact tail_any (ops:=[.ref s3.heap.objs.size,v]) ht hT hg (by with_unfolding_all rfl)
noncomputable def vo(xs:List V)(lo hi:Option Int):List V:=(xs.drop (HT.au xs.length 0 lo)).take (HT.au xs.length xs.length hi-HT.au xs.length 0 lo)
theorem XH(xs:List V)(lo hi:Option Int):(vo xs lo hi).length<=xs.length:=by unfold vo;rw[sX,Gw];exact Ys (Cm _ _) (GX _ _)
noncomputable def ZuM(K:Yb):V->Option Int->Option Int->Hp->VK->Prop:=λx lo hi H Q=>∃a xs,x= .ref a/\bY K H a xs/\
 ¬(HT.au xs.length 0 lo=0/\HT.au xs.length xs.length hi=xs.length)/\∀p,H p=Yi->Q (.ref p) (upd H p (.tup (vo xs lo hi)))
theorem XJ:gY X (ZuM X.K):=by
 intro pins s σ H x v vl vu lo hi sl Q I rx hs pl pu h;obtain⟨a,xs,rfl,hx,hw,q⟩:=h;cases rx;obtain⟨its,r,ht,hz⟩:=I.tuple hx;have hlen:its.toArray.size=xs.length:=by rw[Yo];exact r.length.symm
 refine⟨"tuple",_,PyProof.Rows.slot_tuple_getitem.lookup,ht.typeIs,?_⟩;refine HT.Aay ht hs pl pu (by rw[hlen];exact hw) ?_ (by rw[hlen];exact hz);rw[hlen];refine⟨.ref s.heap.objs.size,_,I.laid (t':=s.toks) (o:=.tup (vo xs lo hi)) (λb ob q=>Yh _ q) (Yq _) ?_,rfl,q _ (I.hok.fresh (Yq _))⟩;exact⟨Ys (XH xs lo hi) hz,_,(r.drop (HT.au xs.length 0 lo)).take (HT.au xs.length xs.length hi-HT.au xs.length 0 lo),qt.new _ _⟩
def Zsz(K:Yb):R2:=λx y H Q=>∃a b xs ys,x= .ref a/\y= .ref b/\bY K H a xs/\bY K H b ys/\xs≠[]/\xs.length+ys.length<=Y6/\
 (ys=[]->Q (.ref a) H)/\(ys≠[]->∀p,H p=Yi->Q (.ref p) (upd H p (.tup (xs++ys))))
theorem Vals.KJ{xs:List V}{us:List Yd}(r:Vals xs us):us=[]↔xs=[]:=by
 cases r with
 |nil=>simp|cons _ _=>simp
theorem Zor:aJ X (iB .Add) (Zsz X.K):=by intro pins s σ H x y v u Q I rx ry h;obtain⟨a,b,xs,ys,rfl,rfl,ha,hb,hx,hz,q1,q2⟩:=h;cases rx;cases ry;obtain⟨its,r1,p1,_⟩:=I.tuple ha;obtain⟨its2,r2,p2,_⟩:=I.tuple hb;refine HT.Ags p1 p2 (λz=>hx (r1.KJ.mp z)) (λz=>⟨.ref a,H,I,rfl,q1 (r2.KJ.mp z)⟩) (λz=>?_) (by rw[←r1.length,←r2.length];exact hz);refine⟨.ref s.heap.objs.size,_,I.laid (t':=s.toks) (o:=.tup (xs++ys)) (λb ob q=>Yh _ q) (Yq _) ?_,rfl,q2 (λw=>z (r2.KJ.mpr w)) _ (I.hok.fresh (Yq _))⟩;exact⟨by rw[Y4];exact hz,_,r1.append r2,qt.new _ _⟩
end
end L2
namespace L2
open PySem PySem.Spec PyProof.Rows
noncomputable def zK(n:Nat)(i:Int):Option Nat:=if 0<=i then(if i<n then Ya i.toNat else Yi)else if -(n:Int)<=i then Ya (i+n).toNat else Yi
noncomputable def xG{α:Type}(xs:List α)(i:Int):Option α:=(zK xs.length i).bind λj=>xs[j]?
theorem XM{n:Nat}{i:Int}{j:Nat}(h:zK n i=Ya j):seqIndex? i n=Ya j/\j<n/\ -(n:Int)<=i/\i<n:=by
 unfold zK at h;by_cases h0:0<=i
 .rw[if_pos h0]at h;by_cases h1:i<n
  .rw[if_pos h1]at h;have e:i.toNat=j:=Y3 h;exact⟨by rw[Li h0 h1,e],by exact iN [_,_,_] [_] 3 0x211008a1280911031 T1 e h1 (u9 h0),by exact iN [_] [_] 1 144182913 T1 h0,h1⟩
  .rw[if_neg h1]at h;cases h
 .rw[if_neg h0]at h;by_cases h1:-(n:Int)<=i
  .rw[if_pos h1]at h;have e:(i+n).toNat=j:=Y3 h;exact⟨by rw[Lg (by exact zp.1 h0) h1,e],by exact iN [_,_,_] [_] 3 0x211280c08a10ec11031 T1 e h0 (u9 (iN [_] [_] 1 8851524979073 T1 h1)),h1,by exact iN [_] [_] 1 134811329 T1 h0⟩
  .rw[if_neg h1]at h;cases h
theorem Og{α:Type}{xs:List α}{i:Int}{v:α}(h:xG xs i=Ya v):∃j,seqIndex? i xs.length=Ya j/\xs[j]?=Ya v/\j<xs.length/\ -(xs.length:Int)<=i/\i<xs.length:=by
 unfold xG at h;cases e:zK xs.length i with
 |none=>rw[e]at h;cases h|some j=>rw[e]at h;obtain⟨h1,h2,h3,h4⟩:=XM e;exact⟨j,h1,h,h2,h3,h4⟩
def XQ(b:Expr):Prop:=∀o i,Gd b false o i=operate [o,i] (mV o i)
def jB(X:Cx)(r:R2):Prop:=
 ∀(value slice:Expr) (pins:List (Yl×aq)) (s:Yg) (σ:St) (H:Hp) (x y:V) (v u:Yd) (Q:VK),Inv X pins σ H s->RelV x v->RelV y u->r x y H Q ->
  Gd slice false v u=operate [v,u] (mV v u)->Y1 (Y9 X.prog X.w) X.A (MN value slice v u) (EP X pins σ Q) X.xe s
def qC(X:Cx)(id:String)(r:V->List V->Hp->VK->Prop):Prop:=
 ∀(pins:List (Yl×aq)) (s:Yg) (σ:St) (H:Hp) (x:V) (xs:List V) (v:Yd) (us:List Yd) (Q:VK),Inv X pins σ H s->RelV x v->Vals xs us->r x xs H Q ->
  Y1 (Y9 X.prog X.w) X.A (call (.builtin id) (v::us)) (EP X pins σ Q) X.xe s
section
variable {X:Cx} {a b:Expr} {ta tb:TE} {pos:aF}
theorem jB.or{r r':R2}(h:jB X r)(h':jB X r'):jB X (λx y H Q=>r x y H Q\/r' x y H Q):=by
 intro value slice pins s σ H x y v u Q I rx ry q hs;rcases q with q|q
 .exact h value slice pins s σ H x y v u Q I rx ry q hs
 .exact h' value slice pins s σ H x y v u Q I rx ry q hs
theorem ZsO{r:R2}(hr:jB X r)(ha:PE X a ta)(hb:PE X b tb)(hs:XQ b):PE X (.Subscript a b pos) (Di r ta tb):=by intro pins s σ H Q I h;exact MP (N5 ha hb I h λv u s2 x y H2 I2 rx ry q=>hr a b pins s2 σ H2 x y v u Q I2 rx ry q (hs _ _))
def XR(K:Yb):R2:=λx y H Q=>∃p xs i v,x= .ref p/\y= .int i/\bK K H p xs/\xG xs i=Ya v/\Q v H
def XX(K:Yb):R2:=λx y H Q=>∃p xs i v,x= .ref p/\y= .int i/\bY K H p xs/\xG xs i=Ya v/\Q v H
def X4:R2:=λx y H Q=>∃z i c,x= .str z/\y= .int i/\z.length<=Y6/\xG z.cps.toList i=Ya c/\Q (.str ⟨#[c]⟩) H
theorem Zow:jB X (XR X.K):=by
 intro value slice pins s σ H x y v u Q I rx ry h hs;obtain⟨p,xs,i,z,rfl,rfl,hq,he,q⟩:=h;cases rx;obtain⟨t,rfl⟩:=ry;obtain⟨its,r,pl,hz⟩:=I.list hq;obtain⟨j,h1,h2,h3,h4,h5⟩:=Og he;obtain⟨w,ew,iG⟩:=r.get h2;have hl:=r.length;have hn:=Dk;have fin:EP X pins σ Q w s:=⟨z,H,I,iG,q⟩;by_cases h0:0<=i
 .have hj:i.toNat=j:=by
   rw[Li h0 h5]at h1;exact Y3 h1
  exact item_listR pl.isList h0 (by omega) (by rw[hj];simpa using ew) fin hs
 .have hj:(i+(its.toArray.size:Int)).toNat=j:=by
   rw[Lg (by exact zp.1 h0) h4]at h1;rw[Yo,←hl];exact Y3 h1
  exact VP (x:=w) pl.isList.typeIs slot_list_getitem.lookup
   (wpAny_getItem_list_neg (Q:=λr s'=>r=w/\EP X pins σ Q r s') pl.isList (by exact zp.1 h0) (by rw[Yo]<;>exact iN [_,_] [_] 2 6922527515414561 T1 hl h4) (by omega) (by rw[hj];simpa using ew) ⟨rfl,fin⟩) hs
theorem Zq5:jB X (XX X.K):=by
 intro value slice pins s σ H x y v u Q I rx ry h hs;obtain⟨p,xs,i,z,rfl,rfl,hq,he,q⟩:=h;cases rx;obtain⟨t,rfl⟩:=ry;obtain⟨its,r,pl,hz⟩:=I.tuple hq;obtain⟨j,h1,h2,h3,h4,h5⟩:=Og he;obtain⟨w,ew,iG⟩:=r.get h2;have hl:=r.length;have hn:=Dk;have fin:EP X pins σ Q w s:=⟨z,H,I,iG,q⟩;exact VP (x:=w) pl.typeIs slot_tuple_getitem.lookup
  (getItem_tuple (j:=j) (Q:=λr s'=>r=w/\EP X pins σ Q r s') pl (by omega) (by omega) (by rw[Yo,←hl];exact h1) (by simpa using ew) ⟨rfl,fin⟩) hs
theorem ZqS:jB X X4:=by
 intro value slice pins s σ H x y v u Q I rx ry h hs;obtain⟨z,i,c,rfl,rfl,hz,he,q⟩:=h;obtain⟨t,rfl⟩:=rx;obtain⟨t',rfl⟩:=ry;obtain⟨j,h1,h2,h3,h4,h5⟩:=Og he;have hl:z.cps.toList.length=z.length:=by simp[oH]
 rw[hl]at h1 h4 h5;have hn:=Dk;exact tail_any (yS s z t) slot_str_getitem.lookup (getItem_str (c:=c) (by have e1:decide (i< -(2^63:Int))=false:=decide_eq_false (by omega);have e2:decide (i>=2^63)=false:=decide_eq_false (by omega);rw[e1,e2,Vp]) (by rw[h1];simpa using h2) ⟨.str ⟨#[c]⟩,H,I.tok _,⟨_,rfl⟩,q⟩) hs
def rIx(K:Yb):R2:=λx y H Q=>XR K x y H Q\/XX K x y H Q\/X4 x y H Q
theorem Zrx:jB X (rIx X.K):=Zow.or (Zq5.or ZqS)
theorem Zjw(its:List Yd)(n j:Nat)(u:Yd):CJ (·.setIfInBounds j u) {cls:=.type "list",data:=.seq its.toArray n}={cls:=.type "list",data:=.seq (its.set j u).toArray n}:=by simp[CJ]
theorem Inv.lst{pins:List (Yl×aq)}{σ:St}{H:Hp}{s:Yg}{p:Yl}{xs:List V}(I:Inv X pins σ H s)(h:H p=Ya (.lst xs)):
  ∃(its:List Yd) (n:Nat),Vals xs its/\s.heap.get? p=Ya {cls:=.type "list",data:=.seq its.toArray n}/\xs.length<=Y6:=by
 obtain⟨z,its,n,r,e⟩:=I.hok p _ h;exact⟨its,n,r,e,z⟩
theorem Inv.AgH{pins:List (Yl×aq)}{σ:St}{H:Hp}{s:Yg}{p:Yl}{xs ys:List V}{its its':List Yd}{n n':Nat}{f:aq->aq}(I:Inv X pins σ H s)(h:H p=Ya (.lst xs))(ho:s.heap.get? p=Ya {cls:=.type "list",data:=.seq its.toArray n})(hf:f {cls:=.type "list",data:=.seq its.toArray n}={cls:=.type "list",data:=.seq its'.toArray n'})(r:Vals ys its')(hz:ys.length<=Y6)(t:Nat):
  Inv X pins σ (upd H p (.lst ys)) {s with heap:=s.heap.update p f,toks:=t}:=by
 have e:(s.heap.update p f).get? p=Ya {cls:=.type "list",data:=.seq its'.toArray n'}:=by rw[yZ f ho (by rw[hf]<;>rfl),hf]
 refine I.write (x:=p) (e:=p) (by rw[h];trivial) (.inl rfl) (λb u hb q=>(wW _ _ (cP hb)).trans q) ⟨_,e⟩ ?_;exact⟨hz,its',n',r,e⟩
noncomputable def Zsl:V->V->V->Hp->(Hp->Prop)->Prop:=λo i v H Q=>∃p xs k j,o= .ref p/\i= .int k/\H p=Ya (.lst xs)/\zK xs.length k=Ya j/\Q (upd H p (.lst (xs.set j v)))
theorem set_list:Xe X Zsl:=by
 intro pins s σ H o i v ov iv u Q I ro ri rv h;obtain⟨p,xs,k,j,rfl,rfl,hp,hj,q⟩:=h;cases ro;obtain⟨t,rfl⟩:=ri;obtain⟨its,n,r,ho,hz⟩:=I.lst hp;obtain⟨h1,h2,h3,h4⟩:=XM hj;have hl:=r.length;have hn:=Dk;have I':Inv X pins σ (upd H p (.lst (xs.set j v))) {s with heap:=s.heap.update p (CJ (·.setIfInBounds j u))}:=I.AgH hp ho (Zjw its n j u) (r.set rv j) (by rw[LK];exact hz) s.toks;by_cases h0:0<=k
 .have hk:k.toNat=j:=by
   rw[Li h0 h4]at h1;exact Y3 h1
  exact PySem.W.ki_setAt ho h0 (by omega) (by rw[Yo,←hl];exact h4) (by rw[hk];exact⟨_,I',q⟩)
 .have hk:(k+(its.toArray.size:Int)).toNat=j:=by
   rw[Lg (by exact zp.1 h0) h3]at h1;rw[Yo,←hl];exact Y3 h1
  exact PySem.W.ki_setBack ho (by exact zp.1 h0) (by rw[Yo,←hl];exact h3) (by omega) (by rw[hk];exact⟨_,I',q⟩)
theorem ZhS(lo hi:Option Int)(n:Nat):(Yes lo hi Yi n).1=((HT.au n 0 lo:Nat):Int)/\(Yes lo hi Yi n).2.1=((HT.au n n hi:Nat):Int)/\(Yes lo hi Yi n).2.2=1:=by
 refine⟨?_,?_,rfl⟩
 .cases lo with
  |none=>simp[Yes,HT.au]|some i=>
   simp only[Yes,HT.au,Tu,show(1:Int)>0 by decide,if_true];by_cases h:i<0
   .simp only[h,if_true]<;>exact Np _ _ h
   .simp only[h,if_false]<;>exact Nq _ _ h
 .cases hi with
  |none=>simp[Yes,HT.au]|some i=>
   simp only[Yes,HT.au,Tu,show(1:Int)>0 by decide,if_true];by_cases h:i<0
   .simp only[h,if_true]<;>exact Np _ _ h
   .simp only[h,if_false]<;>exact Nq _ _ h
theorem ZgC(its:List Yd)(lo hi:Option Int):slicePick its.toArray lo hi Yi=((its.drop (HT.au its.length 0 lo)).take (HT.au its.length its.length hi-HT.au its.length 0 lo)).toArray:=by obtain⟨h1,h2,h3⟩:=ZhS lo hi its.toArray.size;unfold slicePick;rw[h1,h2,h3];simp only[sliceRange_one,pick_run,Yo]<;>rfl
noncomputable def Zux(K:Yb):V->Option Int->Option Int->Hp->VK->Prop:=λx lo hi H Q=>∃a xs,x= .ref a/\bK K H a xs/\∀p,H p=Yi->Q (.ref p) (upd H p (.lst (vo xs lo hi)))
theorem Zob:gY X (Zux X.K):=by intro pins s σ H x v vl vu lo hi sl Q I rx hs pl pu h;obtain⟨a,xs,rfl,hx,q⟩:=h;cases rx;obtain⟨its,r,ht,hz⟩:=I.list hx;have hlen:=r.length;refine⟨"list",_,slot_list_getitem.lookup,ht.isList.typeIs,?_⟩;refine wpAny_getItem_list_slice ht.isList hs pl pu .none (by simp) ?_ (by rw[Yo]<;>exact lC 2 2268279672881 T1 hlen hz);rw[ZgC,←hlen];refine⟨.ref s.heap.objs.size,_,I.laid (t':=s.toks) (o:=.lst (vo xs lo hi)) (λb ob q=>Yh _ q) (Yq _) ?_,rfl,q _ (I.hok.fresh (Yq _))⟩;exact⟨Ys (XH xs lo hi) hz,_,0,(r.drop (HT.au xs.length 0 lo)).take (HT.au xs.length xs.length hi-HT.au xs.length 0 lo),Yu _ rfl⟩
noncomputable def qD:V->Bool
 | .non=>true|.bl _=>true|.int _=>true|.str _=>true
 |_=>false
noncomputable def tW:V->V->Bool
 | .non,.non=>true|.bl a,.bl b=>a==b|.bl a,.int b=>(if a then 1 else 0)==b|.int a,.bl b=>a==(if b then 1 else 0)
 | .int a,.int b=>a==b|.str a,.str b=>a==b|_,_=>false
theorem ZqK{A:aU}{s:Yg}{y x:V}{u v:Yd}(ry:RelV y u)(rx:RelV x v)(fy:qD y=true)(fx:qD x=true):u_ A s u v (tW y x):=by
 cases y with
 |non=>
  cases ry
  cases x with
  |non=>cases rx;exact Ng _|bl b=>cases rx;exact Wd b|int b=>obtain⟨t,rfl⟩:=rx;exact Wh b t|str b=>obtain⟨t,rfl⟩:=rx;exact Wi b t
  |_=>exact absurd (show false=true from fx) oG
 |bl a=>
  cases ry
  cases x with
  |non=>cases rx;exact Wf a|bl b=>cases rx;exact Wg a b|int b=>obtain⟨t,rfl⟩:=rx;exact Wj a b t|str b=>obtain⟨t,rfl⟩:=rx;exact Wk a b t
  |_=>exact absurd (show false=true from fx) oG
 |int a=>
  obtain⟨t',rfl⟩:=ry;cases x with
  |non=>cases rx;exact Wl a t'|bl b=>cases rx;exact Wm a t' b|int b=>obtain⟨t,rfl⟩:=rx;exact Wq a t' b t|str b=>obtain⟨t,rfl⟩:=rx;exact Nb a t' b t
  |_=>exact absurd (show false=true from fx) oG
 |str a=>
  obtain⟨t',rfl⟩:=ry;cases x with
  |non=>cases rx;exact Wn a t'|bl b=>cases rx;exact Wo a t' b|int b=>obtain⟨t,rfl⟩:=rx;exact Nf a t' b t|str b=>obtain⟨t,rfl⟩:=rx;exact Wr a t' b t
  |_=>exact absurd (show false=true from fx) oG
 |_=>exact absurd (show false=true from fy) oG
noncomputable def jC(x:V)(u:Yd):Bool:=match u with
 | .none=>tW .non x|.bool b=>tW (.bl b) x|.int i _=>tW (.int i) x|.str z _=>tW (.str z) x
 |_=>false
theorem X5{x y:V}{u:Yd}(r:RelV y u)(f:qD y=true):jC x u=tW y x:=by
 cases y with
 |non=>cases r;rfl|bl b=>cases r;rfl|int i=>obtain⟨t,rfl⟩:=r;rfl|str z=>obtain⟨t,rfl⟩:=r;rfl
 |_=>exact absurd (show false=true from f) oG
theorem Dq{x:V}:∀{xs:List V} {us:List Yd},Vals xs us->xs.all qD=true->us.any (jC x)=xs.any λy=>tW y x
 |_,_,.nil,_=>rfl|y::xs,u::us,.cons r t,f=>by rw[mY,gq]at f;rw[p7,p7,X5 r f.1,Dq t f.2]
theorem Dr{A:aU}{s:Yg}{x:V}{v:Yd}(rx:RelV x v)(fx:qD x=true):∀{xs:List V} {us:List Yd},Vals xs us->xs.all qD=true->∀u∈us,u_ A s u v (jC x u)
 |_,_,.nil,_=>λu hu=>by cases hu|y::xs,u::us,.cons r t,f=>λu' hu=>by
  rw[mY,gq]at f;rcases Y5.mp hu with rfl|hu
  .rw[X5 r f.1];exact ZqK r rx f.1 fx
  .exact Dr rx fx t f.2 u' hu
noncomputable def inV(x:V)(xs:List V):Bool:=xs.any λy=>tW y x
def Oh(K:Yb)(neg:Bool):R2:=λx y H Q=>∃p xs,y= .ref p/\(bK K H p xs\/bY K H p xs)/\qD x=true/\xs.all qD=true/\Q (.bl (if neg then !inV x xs else inV x xs)) H
theorem ZlL:aJ X (fB .In) (Oh X.K false):=by
 intro pins s σ H x y v u Q I rx ry h;obtain⟨p,xs,rfl,hq,fx,fs,q⟩:=h;cases ry;rcases hq with hq|hq
 .obtain⟨its,r,pl,hz⟩:=I.list hq;refine SeqAt.in_listAt (jC x) pl.isList (λw hw=>Dr rx fx r fs w (by simpa using hw)) ⟨.bl _,H,I,rfl,?_⟩;rw[show its.toArray.any (jC x)=its.any (jC x)by simp,Dq r fs];exact q
 .obtain⟨its,r,pl,hz⟩:=I.tuple hq;refine SeqAt.in_tupleAt (jC x) pl (λw hw=>Dr rx fx r fs w (by simpa using hw)) ⟨.bl _,H,I,rfl,?_⟩;rw[show its.toArray.any (jC x)=its.any (jC x)by simp,Dq r fs];exact q
theorem Zhp:aJ X (fB .NotIn) (Oh X.K true):=by
 intro pins s σ H x y v u Q I rx ry h;obtain⟨p,xs,rfl,hq,fx,fs,q⟩:=h;cases ry;rcases hq with hq|hq
 .obtain⟨its,r,pl,hz⟩:=I.list hq;refine SeqAt.notIn_listAt (jC x) pl.isList (λw hw=>Dr rx fx r fs w (by simpa using hw)) ⟨.bl _,H,I,rfl,?_⟩;rw[show its.toArray.any (jC x)=its.any (jC x)by simp,Dq r fs];exact q
 .obtain⟨its,r,pl,hz⟩:=I.tuple hq;refine SeqAt.notIn_tupleAt (jC x) pl (λw hw=>Dr rx fx r fs w (by simpa using hw)) ⟨.bl _,H,I,rfl,?_⟩;rw[show its.toArray.any (jC x)=its.any (jC x)by simp,Dq r fs];exact q
theorem cj.or{f:Yd}{r r':List V->Hp->VK->Prop}(h:cj X f r)(h':cj X f r'):cj X f (λxs H Q=>r xs H Q\/r' xs H Q):=by
 intro pins s σ H xs us Q I rs q;rcases q with q|q
 .exact h pins s σ H xs us Q I rs q
 .exact h' pins s σ H xs us Q I rs q
theorem Zif:cj X (.type "list") (λxs H Q=>∃p ys,xs=[.ref p]/\(bK X.K H p ys\/bY X.K H p ys)/\∀l,H l=Yi->Q (.ref l) (upd H l (.lst ys))):=by
 intro pins s σ H xs us Q I r h;obtain⟨p,ys,rfl,hq,q⟩:=h;obtain⟨u,rfl,rx⟩:=vals1 r;cases rx;have fin:∀(its:List Yd),Vals ys its->ys.length<=Y6->∀(h':ao) (c':Nat),(∀b o',s.heap.get? b=Ya o'->h'.get? b=Ya o') ->
   h'.get? s.heap.objs.size=Ya {cls:=.type "list",dict:=Yi,data:=.seq its.toArray c',slots:=#[]}->EP X pins σ Q (.ref s.heap.objs.size) {s with heap:=h'}:=λits r' hz h' c' kp e=>
  ⟨.ref s.heap.objs.size,_,I.laid (t':=s.toks) kp (Yq _) (show bR X.prog X.w _ h' _ (.lst ys)from⟨hz,its,c',r',e⟩),rfl,q _ (I.hok.fresh (Yq _))⟩
 rcases hq with hq|hq
 .obtain⟨its,r',pl,hz⟩:=I.list hq;have hlen:=r'.length;obtain⟨o,ho,hc,n,hd⟩:=pl.isList;exact call_list_seq p (.inl rfl) ho hc hd (λh' c' kp e=>fin its r' hz h' c' kp e) (by simp only[Yo]<;>exact lC 2 2268279672881 T1 hlen hz)
 .obtain⟨its,r',pl,hz⟩:=I.tuple hq;have hlen:=r'.length;obtain⟨o,ho,hc,n,hd⟩:=pl;exact call_list_seq p (.inr rfl) ho hc hd (λh' c' kp e=>fin its r' hz h' c' kp e) (by simp only[Yo]<;>exact lC 2 2268279672881 T1 hlen hz)
theorem ZgK:cj X (.type "tuple") (λxs H Q=>∃p ys,xs=[.ref p]/\((bK X.K H p ys/\∀l,H l=Yi->Q (.ref l) (upd H l (.tup ys)))\/(bY X.K H p ys/\Q (.ref p) H))):=by
 intro pins s σ H xs us Q I r h;obtain⟨p,ys,rfl,h⟩:=h;obtain⟨u,rfl,rx⟩:=vals1 r;cases rx;rcases h with⟨hq,q⟩|⟨hq,q⟩
 .obtain⟨its,r',pl,hz⟩:=I.list hq;have hlen:=r'.length;refine call_tuple_list pl.isList (λh' kp=>?_) (by simp only[Yo]<;>exact lC 2 2268279672881 T1 hlen hz);have I1:Inv X pins σ H {s with heap:=h'}:=I.kept (t':=s.toks) kp;have I2:Inv X pins σ (upd H h'.objs.size (.tup ys)) {s with heap:=h'.push {cls:=.type "tuple",data:=.seq its.toArray}}:=
   I1.laid (t':=s.toks) (λb o e=>Yh _ e) (Yq _) (show bR X.prog X.w _ _ _ (.tup ys)from⟨hz,its,r',qt.new _ _⟩)
  exact⟨.ref h'.objs.size,_,I2,rfl,q _ (I1.hok.fresh (Yq _))⟩
 .obtain⟨its,r',pl,hz⟩:=I.tuple hq;exact call_tuple_same pl ⟨.ref p,H,I,rfl,q⟩
def Ds(K:Yb)(T:String)(x:V)(H:Hp):Prop:=match x with
 | .str _=>T= "str"|.int _=>T= "int"|.ref p=>(T= "list" /\∃xs,bK K H p xs)\/(T= "tuple" /\∃o,K.lookup p=Ya o/\o.cls= .type "tuple" /\o.dict=Yi)\/
   (T= "dict" /\((∃kvs,H p=Ya (.dK kvs))\/∃kvs,H p=Ya (.dT kvs)))\/(T= "set" /\∃S n,H p=Ya (.set S n))
 |_=>False
theorem Zqw{pins:List (Yl×aq)}{σ:St}{H:Hp}{s:Yg}{T:String}{x:V}{v:Yd}(I:Inv X pins σ H s)(r:RelV x v)(ty:Ds X.K T x H):
  s.TypeIs v T/\∀a,v= .ref a->∃ob,s.heap.get? a=Ya ob/\ob.dict=Yi:=by
 cases x with
 |str z=>obtain⟨t,rfl⟩:=r;cases(show T= "str" from ty);exact⟨yS s z t,λ_ e=>nomatch e⟩|int i=>obtain⟨t,rfl⟩:=r;cases(show T= "int" from ty);exact⟨typeIs_int s i t,λ_ e=>nomatch e⟩|ref p=>
  cases r
  rcases ty with⟨rfl,xs,hq⟩|⟨rfl,o,hk,hc,hd⟩|⟨rfl,hk⟩|⟨rfl,S,n,hk⟩
  .obtain⟨its,_,pl,_⟩:=I.list hq;refine⟨pl.isList.typeIs,λa e=>?_⟩;cases e;obtain⟨o,n,e,c,hd,_⟩:=pl;exact⟨o,e,hd⟩
  .refine⟨⟨o,I.bF p o hk,hc⟩,λa e=>?_⟩;cases e;exact⟨o,I.bF _ o hk,hd⟩
  .have z:∃o,s.heap.get? p=Ya o/\o.ExactDict:=by
    rcases hk with⟨kvs,hk⟩|⟨kvs,hk⟩
    .obtain⟨_,_,_,_,o,_,_,e,ex,_⟩:=I.hok p _ hk;exact⟨o,e,ex⟩
    .obtain⟨_,_,_,_,o,_,_,e,ex,_⟩:=I.hok p _ hk;exact⟨o,e,ex⟩
   obtain⟨o,e,ex⟩:=z;refine⟨⟨o,e,ex.1⟩,λa e2=>?_⟩;cases e2;exact⟨o,e,ex.2.1⟩
  .obtain⟨o,_,_,_,e,ex,_⟩:=I.hok p _ hk;refine⟨⟨o,e,ex.1⟩,λa e2=>?_⟩;cases e2;exact⟨o,e,ex.2.1⟩
 |_=>exact dg ty
def X6(K:Yb)(T:String)(r:V->List V->Hp->VK->Prop)(to:TE)(t:TA):TE:=λσ H Q=>to σ H λx H1=>Ds K T x H1/\t σ H1 λxs H2=>r x xs H2 Q
variable {o e:Expr} {es:List Expr} {to:TE} {t:TA} {name:aj} {apos cpos:aF} {T id:String} {r:V->List V->Hp->VK->Prop}
theorem Ih(pa:PlainAttrs T)(slot:Slot T name id)(hty:typeOf (.builtin id)=pure (.type "method_descriptor"))(hm:qC X id r)(ho:PE X o to)(ha:PA X (e::es) t)(hbase:sH o name X.env (aA o X.env)=aA o X.env:=by rfl)(hfew:((bI cpos (Yk (e::es) X.env)).all (λx=>!x.1)&&(ju cpos (jt [] X.env)).all (λx=>x.1.isSome)
   &&decide ((e::es).length+([]:List Keyword).length+(if([]:List Keyword).isEmpty then 0 else 1)<30))=true:=by rfl)(hline:(apos.endLine==cpos.line)=true:=by rfl)(hs:Yk (e::es) X.env=(false,aA e X.env)::Yk es X.env:=by rfl)(hplain:(bI cpos (Yk es X.env)).any (·.1)=false:=by rfl):
  PE X (.Call (.Attribute o name apos) (e::es) [] cpos) (X6 X.K T r to t):=by
 intro pins s σ H Q I h;refine wpAny_Call_method_late hbase hfew hline rfl (aC (ho pins s σ H _ I h) λv s1 ak=>?_);obtain⟨x,H1,I1,r1,ty,q1⟩:=ak;obtain⟨h1,h2⟩:=Zqw I1 r1 ty;refine⟨T,id,pa,slot,hty,h1,h2,?_⟩;have hA:=ha cpos pins s1 σ H1 _ I1 q1;rw[hs]at hA ⊢;refine V5 (by show(false|| (bI cpos (Yk es X.env)).any (·.1))=false;rw[hplain]<;>rfl) (zr ?_);exact aC hA λus s2 ⟨vs,H2,I2,r2,q2⟩=>hm pins s2 σ H2 x vs v us Q I2 r1 r2 q2
/-xs.append(e),list.index on a module's tuple .. are qC facts of 06m -/
end
end L2
namespace L2
open PySem PySem.Spec PyProof.Rows
def MtM(X:Cx)(id:String)(r:V->List V->Hp->VK->Prop):Prop:=
 ∀(pins:List (Yl×aq)) (s:Yg) (σ:St) (H:Hp) (x:V) (xs:List V) (v:Yd) (us:List Yd) (Q:VK),Inv X pins σ H s->RelV x v->Vals xs us->r x xs H Q ->
  Y1 (Y9 X.prog X.w) X.A (call (.builtin id) (v::us)) (EP X pins σ Q) X.xe s
variable{us:List Yd}
theorem Vals.one{x:V}(h:Vals [x] us):∃u,us=[u]/\RelV x u:=by
 cases h with
 |cons r h=>cases h;exact⟨_,rfl,r⟩
theorem Vals.two{x y:V}(h:Vals [x,y] us):∃u v,us=[u,v]/\RelV x u/\RelV y v:=by
 cases h with
 |cons r h=>obtain⟨v,rfl,q⟩:=Vals.one h;exact⟨_,v,rfl,r,q⟩
theorem Vals.zero:∀{us:List Yd},Vals [] us->us=[]
 |_,.nil=>rfl
theorem Vals.reverse{xs:List V}(h:Vals xs us):Vals xs.reverse us.reverse:=by
 induction h with
 |nil=>exact .nil|cons r t ih=>rw[U4,U4];exact Vals.append ih (.cons r .nil)
section
variable {X:Cx} {pins:List (Yl×aq)} {σ:St} {H:Hp} {s:Yg} {l b:Yl} {xs ys zs:List V}
theorem Inv.Ag2{its its':List Yd}{n:Nat}{f:Array Yd->Array Yd}{t':Nat}(I:Inv X pins σ H s)(hH:H l=Ya (.lst xs))(e:s.heap.get? l=Ya {cls:=.type "list",data:=.seq its.toArray n})(hf:f its.toArray=its'.toArray)(hv:Vals ys its')(hz:ys.length<=Y6):
  Inv X pins σ (upd H l (.lst ys)) {s with heap:=s.heap.update l (CJ f),toks:=t'}:=by
 have q:=PySem.IsL.update e f;rw[hf]at q;refine I.write (x:=l) (e:=l) (by rw[hH];exact trivial) (.inl rfl) (λb' u hb hu=>(wW s.heap (CJ f) (cP hb)).trans hu) ⟨_,q⟩ ?_;exact⟨hz,its',_,hv,q⟩
theorem Inv.Ag3{its:List Yd}{t':Nat}(I:Inv X pins σ H s)(hv:Vals ys its)(hz:ys.length<=Y6):
  Inv X pins σ (upd H s.heap.objs.size (.lst ys)) {s with heap:=s.heap.push {cls:=.type "list",data:=.seq its.toArray},toks:=t'}:=
 I.laid (λ_ _ q=>Yh _ q) (Yq _) ⟨hz,its,0,hv,Yu _ rfl⟩
theorem Inv.fresh(I:Inv X pins σ H s):H s.heap.objs.size=Yi:=I.hok.fresh (Yq _)
theorem Inv.KQ(I:Inv X pins σ H s)(hH:H l=Ya (.lst xs)):xs.length<=Y6/\∃(its:List Yd) (n:Nat),Vals xs its/\xs.length=its.length/\s.heap.get? l=Ya {cls:=.type "list",data:=.seq its.toArray n}:=by obtain⟨z,its,n,r,e⟩:=I.hok l _ hH;exact⟨z,its,n,r,r.length,e⟩
end
section
variable {X:Cx}
noncomputable def X7:V->List V->Hp->VK->Prop:=λx vs H Q=>∃l xs y,x= .ref l/\vs=[y]/\H l=Ya (.lst xs)/\xs.length<Y6/\Q .non (upd H l (.lst (xs++[y])))
theorem X8:MtM X "list.append" X7:=by intro pins s σ H x vs v us Q I rx rv h;obtain⟨l,xs,y,rfl,rfl,hH,hz,q⟩:=h;cases rx;obtain⟨u,rfl,ru⟩:=rv.one;obtain⟨z,its,n,r,hl,e⟩:=I.KQ hH;refine Ge F.slot_list_append ⟨_,e,rfl⟩ F.entry_list_append (F.args_list_append_2 _ _) (PySem.list_append l its.toArray n u (by rw[Yo];exact lC 2 2268279672881 T1 hl z)) ⟨e,?_⟩;refine⟨.non,_,I.Ag2 (its':=its++[u]) hH e (by simp) (r.append (.cons ru .nil)) ?_,rfl,q⟩;rw[Y4,mX];exact lB 1 6991908881 T1 hz
def ZuN:R2:=λx y H Q=>∃l b xs zs,x= .ref l/\y= .ref b/\H l=Ya (.lst xs)/\H b=Ya (.lst zs)/\xs.length+zs.length<=Y6/\∀p,H p=Yi->Q (.ref p) (upd H p (.lst (xs++zs)))
theorem ZqR:aJ X (iB .Add) ZuN:=by
 intro pins s σ H x y v u Q I rx ry h;obtain⟨l,b,xs,zs,rfl,rfl,hH,hB,hz,q⟩:=h;cases rx;cases ry;obtain⟨z,its,n,r,hl,e⟩:=I.KQ hH;obtain⟨z2,its2,n2,r2,hl2,e2⟩:=I.KQ hB;refine PySem.P.add_list e e2 ?_ (by rw[Yo,Yo];exact lE 3 0x413c0402c0132311031 T1 hl2 hl hz);have ea:its.toArray++its2.toArray=(its++its2).toArray:=by simp
 rw[ea];exact⟨.ref _,_,I.Ag3 (t':=s.toks) (r.append r2) (by rw[Y4];exact hz),rfl,q _ I.fresh⟩
end
end L2
namespace X_
open PySem PySem.W PySem.Calls PyProof.Rows
theorem Zfy{P:Params}{h:ao}:∀(ns:List Int) (vs:List Yd),WellAll P h vs (ns.map WData.int)->IntsAre vs ns:=by
 intro ns
 induction ns with
 |nil=>intro vs w;rw[sZ]at w;cases w;exact .nil|cons n ns ih=>
  intro vs w;rw[Yy]at w;cases w with
  |cons a b=>
   cases a
   exact .cons _ _ (ih _ b)
theorem ZlS{l:OpenLaw}{n:Nat}(hn:l.most=Ya n){P:Params}{h:ao}{args:List WData}{vals:List Yd}(hpre:l.row.toRowW.claim.pre args=true)(hwl:WellAll P h vals args):
  ∃a vs ns,vals=[Value.ref a]/\args=[WData.list (ns.map WData.int)]/\h.get? a=Ya {cls:=.type "list",data:=.seq vs.toArray}/\IntsAre vs ns/\ns.length<=n:=by
 have hsh:WShape.hasAll [] args [.list .int]=true:=(pre_splitW hpre).1;have hc:l.pre.holds [] {args:=args}=true:=(pre_splitW hpre).2;obtain⟨d,r,rfl,h1,h2⟩:=hasAllW_cons hsh;obtain rfl:=hasAllW_nil h2;obtain⟨xs,rfl,h3⟩:=hasW_list h1;obtain⟨ns,rfl⟩:=items_int h3;have hlen:ns.length<=n:=by
  unfold OpenLaw.pre at hc;have h4:(WTm.not (.lt (.lit (.int (n:Int))) (.len (.arg 0)))).holds [] {args:=[.list (ns.map .int)]}=true:=by have h4:=(holds_andW hc).1;rw[hn]at h4;exact h4
  have h5:=condW_of h4 (w_not (w_lt w_lit (w_len_list (w_arg rfl))));rw[Yn]at h5;refine jc λq=>?_;have q':(n:Int)<((ns.length:Nat):Int):=by exact Hf.2 q
  first
   |(rw[decide_eq_true q']at h5;exact absurd h5 (by decide))
   |(simp at h5;omega)
 cases hwl with
 |cons w1 w2=>
  cases w2
  cases w1 with
  |list ho hall=>exact⟨_,_,ns,rfl,rfl,ho,Zfy ns _ hall,hlen⟩
theorem Zlz(l:OpenLaw)(args:List WData):l.row.toRowW.claim.post args (.bool true) args=true:=
 postW_of (r:=l.row.toRowW) (X:=(true==true))
  (show WShape.has [] (.bool true) .bool=true by first|rfl|decide|simp[WShape.has,WShape.arms,WShape.armsAll])
  (show(WTm.eq .res (.lit (.bool true))).value [] {args:=args,res:=Ya (.bool true),after:=args}=Ya (.bool (true==true))from w_eq_bool (w_res rfl) w_lit) rfl
theorem AcC{l:OpenLaw}{n:Nat}{q:Yz}{loose:List aj}{XP:(aj->Option Yd)->ao->Prop}{YP:aD->ao->Prop}{d:DefRec}(hn:l.most=Ya n)(hdf:d.params.defaults=[])(call:∀(w:aD) (s₀ s₁:Yg) (mg mb:aj->Option Yd) (fa:Yl) (o:aq) (pm cd doc:Yd) (a:Yl) (vs:List Yd) (ns:List Int),
   Ground q loose [] XP w s₀ mg mb s₁.heap->YP w s₁.heap ->
   s₁.heap.get? fa=Ya o->o.data= .func (docDef d.name d.params d.body d.scope pm cd doc)->s₁.heap.CodeRec cd d.name->mg d.name=Ya (.ref fa) ->
   s₁.heap.get? a=Ya {cls:=.type "list",data:=.seq vs.toArray}->IntsAre vs ns->ns.length<=n->s₁.gens= #[] ->
   mU (Y9 l.prog w) uR (.call (.ref fa) ⟨[.ref a],[]⟩) (λr s'=>r= .ok (.ret (.bool true))/\OldK s₁.heap s'.heap/\s'.os=s₁.os/\qi s'.gens) s₁):
  WalkO q loose XP YP l.row.toRowW d [] (λf vs=>Lq f vs):=by
 intro w s₀ s₁ mg mb G Y fa o pm cd doc dV kV ho hd hcd hD hmg hg args vals as hpre hlay hrd hwl hlo;obtain rfl:dV= .none:=Dflts.none hD hdf;obtain rfl:kV= .none:=Dflts.noKw hD;obtain⟨a,vs,ns,rfl,rfl,hobj,hints,hlen⟩:=ZlS hn hpre hwl;refine enter_call (sI (call w s₀ s₁ mg mb fa o pm cd doc a vs ns G Y ho (fd_plain hd) hcd hmg hobj hints hlen hg) λr s' hq=>?_);obtain⟨rfl,h2,h3,h4⟩:=hq;exact⟨.inl ⟨.bool true,.bool true,[],rfl,λ_=>rfl,.bool true,Zlz l _,λ_=>⟨List.Pairwise.nil,λ_ hm=>(nomatch hm)⟩⟩,h2,h3,h4⟩
end X_
namespace L2
open PySem PySem.Spec PyProof.Rows
theorem YB:∀{vs:List Yd} {ns:List Int},IntsAre vs ns->Vals (ns.map V.int) vs
 |_,_,.nil=>.nil|_,_,.cons n t h=>.cons ⟨t,rfl⟩ (YB h)
def Only(H:Hp):Prop:=∀b,H b=Yi\/∃o xs,H b=Ya (.bA o (.lst xs))
theorem ZmW{P:Yz}{w:aD}{K:Yb}{mg mb:aj->Option Yd}{CX:lO}{k:Nat}{fa a:Yl}{fd:fC}{x:aj}{sp:Sp}{s₁:Yg}{vs:List Yd}{ns:List Int}(KX:K.In s₁.heap)(hns:s₁.heap.Ns Y2 mg)(hb:s₁.heap.Ns Lk mb)(hbb:∀x:aj,x≠ "__name__" ->mb x=fQ x)(hlim:s₁.heap.NoLimit)(hg:s₁.gens= #[])(ha:s₁.heap.get? a=Ya {cls:=.type "list",data:=.seq vs.toArray})(hi:IntsAre vs ns)(hl:ns.length<=Y6)(hr:bZ k uR)(F:∀base:ao,K.In base->base.Ns Y2 mg->dN P w K mg base CX k fa fd [x] sp)(hbind:∀(s:Yg) (u:Yd),yW s fd ⟨[u],[]⟩ [(x,u)])(hsp:∀H:Hp,Only H->bK K H a (ns.map V.int)->sp [.ref a] H (λv _=>v= .bl true) λ_ _ _=>False)(Oi:∀H e s',CX [] H s₁ (λ_ _ _=>False) e s'->False):
  mU (Y9 P w) uR (.call (.ref fa) ⟨[.ref a],[]⟩) (λr s'=>r= .ok (.ret (.bool true))/\OldK s₁.heap s'.heap/\s'.os=s₁.os/\qi s'.gens) s₁:=by
 have rv:=YB hi;have lenV:=hi.length;have core:∀H:Hp,Only H->bK K H a (ns.map V.int)->cJ P w H s₁.heap->(∀b,H b≠Yi->b=a)->(H a≠Yi->K.lookup a=Yi) ->
   mU (Y9 P w) uR (.call (.ref fa) ⟨[.ref a],[]⟩) (λr s'=>r= .ok (.ret (.bool true))/\OldK s₁.heap s'.heap/\s'.os=s₁.os/\qi s'.gens) s₁:=by
  intro H hO hS hok hA hK;have Sx:∀{b:Yl} {o:aq},s₁.heap.get? b=Ya o->H b=Yi->(tL s₁.heap H).get? b=Ya o:=λe n=>ZmM e n;have Dn:∀{b:Yl} {o:aq} {es:Array DictEntry} {ep:Nat},s₁.heap.get? b=Ya o->o.data= .dict es ep->H b=Yi:=λ{b o es ep} e d=>by
   cases q:H b with
   |none=>rfl|some u=>have e':b=a:=hA b (by rw[q];simp);subst e';rw[ha]at e;cases e;have d':Data.seq vs.toArray _=Data.dict es ep:=d;cases d'
  have Ii:∀{b:Yl} {m:aj->Option Yd},s₁.heap.Ns b m->(tL s₁.heap H).Ns b m:=λ{b m} ⟨o,es,ep,e,d,r⟩=>⟨o,es,ep,Sx e (Dn e d),d,r⟩;have YC:K.In (tL s₁.heap H):=λb o e=>Sx (KX b o e) (by
   cases q:H b with
   |none=>rfl|some u=>have e':b=a:=hA b (by rw[q];simp);subst e';rw[hK (by rw[q];simp)]at e;cases e)
  have hM:Mod K mg (tL s₁.heap H):=⟨YC,Ii hns,⟨mb,Ii hb,hbb⟩,let⟨mc,h1,h2⟩:=hlim;⟨mc,Ii h1,h2⟩⟩;have e0:qy P w K mg (tL s₁.heap H) uR [] s₁ H:=⟨rfl,hM,λb o e=>Zpo e,w6 (Zk8 _ _),trivial,λb hb=>absurd (show b∈([]:List Yl)from hb) (by simp),hok,.of_eq hg⟩;refine sI ((F _ YC (Ii hns)).run uR [] s₁ H ⟨[.ref a],[]⟩ [.ref a] [.ref a] _ _ hr e0 (hbind s₁ (.ref a)) (.cons rfl .nil) (hsp H hO hS)) λr s' h=>?_;cases r with
  |error e=>exact(Oi H e s' h).elim|ok fl=>
   cases fl with
   |next=>exact dg h|brk=>exact dg h|cont=>exact dg h|ret u=>
    obtain⟨v,H',os,bare,un,hok',r',q⟩:=h;have q':v= .bl true:=q;subst q';obtain rfl:u=Value.bool true:=r';refine⟨rfl,OldK.of_keep λb o e=>?_,os,bare⟩;cases q:H b with
    |none=>exact un.keep b o e q (by intro z;exact absurd (show b∈([]:List Yl)from z) (by simp)) (by simp)|some u=>
     rcases hO b with z|⟨ob,xs,z⟩
     .rw[q]at z;cases z
     .have z2:=un.jo b ob _ z;obtain⟨e1,_⟩:=hok b _ z;obtain⟨e2,_⟩:=hok' b _ z2;rw[e]at e1;cases e1;exact e2
 cases hk:K.lookup a with
 |some o=>have e:=KX a o hk;rw[ha]at e;cases e;refine core (λ_=>Yi) (λ_=>.inl rfl) (.inr ⟨_,vs.toArray,_,hk,rfl,rfl,rfl,by rw[Yo,lenV];exact hl,by simpa using rv⟩) (λb u z=>by have z':(Yi:Option HO)=Ya u:=z;cases z') (λb z=>absurd rfl z) λz=>absurd rfl z|none=>
  refine core (λb=>if b=a then Ya (.bA {cls:=.type "list",data:=.seq vs.toArray} (.lst (ns.map V.int)))else Yi) (λb=>?_) (.inl (.inr ⟨{cls:=.type "list",data:=.seq vs.toArray},if_pos rfl⟩)) (λb u z=>?_) (λb z=>?_) λ_=>hk
  .by_cases hb:b=a
   .exact .inr ⟨_,_,if_pos hb⟩
   .exact .inl (if_neg hb)
  .by_cases hb:b=a
   .have z':=(if_pos hb).symm.trans z;cases z';subst hb;exact⟨ha,by rw[Yn];exact hl,vs,_,rv,ha⟩
   .have z':=(if_neg hb).symm.trans z;cases z'
  .by_cases hb:b=a
   .exact hb
   .exact absurd (if_neg hb) z
end L2
namespace L2
open PySem PySem.Spec PyProof.Rows
theorem Zk0{l:PySem.W.OpenLaw}{n k:Nat}{q:Yz}{loose:List aj}{XP:(aj->Option Yd)->ao->Prop}{YP:aD->ao->Prop}{d:DefRec}{K:Params->Yb}{CX:aD->lO}{sp:aD->Sp}{x:aj}(hn:l.most=Ya n)(hn2:n<=Y6)(hdf:d.params.defaults=[])(hr:bZ k uR)(hY:∀(w:aD) (h:ao),YP w h->(K w.params).In h)(F:∀(w:aD) (mg:aj->Option Yd) (fa:Yl) (h:ao),(K w.params).In h->h.Ns Y2 mg->mg d.name=Ya (.ref fa) ->
   ∃fd:fC,(∀(s:Yg) (u:Yd),yW s fd ⟨[u],[]⟩ [(x,u)])/\
    ∀base:ao,(K w.params).In base->base.Ns Y2 mg->dN l.prog w (K w.params) mg base (CX w) k fa fd [x] (sp w))(hsp:∀(w:aD) (H:Hp) (a:Yl) (ns:List Int),ns.length<=n->Only H->bK (K w.params) H a (ns.map V.int)->sp w [.ref a] H (λv _=>v= .bl true) λ_ _ _=>False)(Oi:∀(w:aD) (H:Hp) (s:Yg) (e:Yd) (s':Yg),CX w [] H s (λ_ _ _=>False) e s'->False):
  T5 q loose XP YP l.row.toRowW d [] (λf vs=>Lq f vs):=by
 refine X_.AcC hn hdf λw s₀ s₁ mg mb fa o pm cd doc a vs ns G Y ho hd hcd hmg hobj hints hlen hg=>?_;have KX:=hY w _ Y;obtain⟨fd,hb,hF⟩:=F w mg fa _ KX G.T.g hmg;exact ZmW KX G.T.g G.T.b G.T.builtins G.T.nolimit hg hobj hints (Ys hlen hn2) hr hF hb (λH hO hS=>hsp w H a ns hlen hO hS) λH e s'=>Oi w H s₁ e s'
end L2
/-THE LAST THEOREM (shape;LID,My.*are Ahh):
  My.Adr:a structure of the addresses that your layer names (classes,functions);My.Txt K t:a structure (Prop) of the equations over K;
  My.AgI:{K} {implicit addresses ..} (e1:nsIn K Y2 "law" =Ya (Ya (.ref f))) (e2:K.lookup f=Ya ⟨oc,od,.func (fnOf "law" "law" params body scope dV kV doc pm an cdv ct),sl⟩) (e3:codeIn K cdv "law" =true) ..:∃t,My.Txt K t
set_option maxRecDepth 100000 in
set_option maxHeartbeats 0 in
theorem PySem.Challenge.cw_LID_holds : PySem.Challenge.rw_LID.Holds := by
 w_on;o_law;k_head;(case hw=>w_witness2)
 k_fill
 refine L2.Zk0 (l:=PySem.Challenge.rw_LID) (n:=63) (k:=40) (x:="script") (CX:=λw=>..) (sp:=λ_=>My.sp_law) rfl (by decide) rfl ⟨rfl,by decide,by decide⟩ (λw h Y=>PySem.W.kIn_of Y) ?F ?S ?C
 case F=>
  intro w mg fa h KX G hmg;have T:∃t,My.Txt (L2.KOf KX) t:=by
   dsimp only[L2.KOf]                          --K must stand as «<heap const>w.params» for k_is;refine' My.AgI ?e1 ?e2 ?e3 ..
   (case e1=>PySem.W.k_is)                    --in the order:a name->its address->its object->its parts
   (case e2=>PySem.W.k_is)
   ..
  obtain⟨t,T⟩:=T;have e0:=hmg.symm.trans (T6 KX G T.law);cases e0                                       --fa is the law's own address;exact⟨_,λs u=>.of_eq rfl,λbase kb nb=>My.AgJ T kb nb⟩     --if «.of_eq rfl» comes too early:refine'⟨_,?b,λbase kb nb=>My.AgJ T kb nb⟩;exactλs u=>.of_eq rfl
 case S=>exactλw H a ns hl hO hS=>..
 case C=>exact ..
(the tactic k_is has no namespace:write k_is) -/
namespace L2
open PySem PySem.Spec PyProof.Rows
noncomputable def nq(s:Ydr):Arguments:=match s with
 | .FunctionDef _ a _ _ _ _ _ _ _ _=>a|_=>{posonlyargs:=[],args:=[],vararg:=Yi,kwonlyargs:=[],kw_defaults:=[],kwarg:=Yi,defaults:=[]}
noncomputable def gM(s:Ydr):List Ydr:=match s with
 | .FunctionDef _ _ b _ _ _ _ _ _ _=>b|_=>[]
noncomputable def Zq(s:Ydr):Scope:=match s with
 | .FunctionDef _ _ _ _ _ _ sc _ _ _=>sc|_=>{kind:=.function,names:=[],isGenerator:=false,isCoroutine:=false}
noncomputable abbrev nA:lO:=λ_ _ _ _ _ _=>False
noncomputable abbrev E0:XK:=λ_ _ _=>False
theorem YD{X:Cx}:Ib nA X E0:=λ_ _ _ _ _ _ _ h=>h.elim
structure nC(K:Yb)(x qual:aj)(st:Ydr)(f:Yl)(fd:fC):Prop where
 ex:∃(oc:Yd) (od:Option Yl) (dV kV doc pm:Yd) (an:Option Yl) (cdv ct:Yd) (osl:Array (Option Yd)),
  fd=pY x qual (nq st) (gM st) (Zq st) dV kV doc pm an cdv ct/\K.lookup f=Ya ⟨oc,od,.func fd,osl⟩/\BK K cdv qual=true
 kp:uJ K (.ref f)=true
section
variable {P:Yz} {w:aD} {K:Yb} {mg:aj->Option Yd} {base:ao}
theorem nC.ok{x qual:aj}{st:Ydr}{f:Yl}{fd:fC}{N ps:List aj}{k:Nat}{sp:Sp}(F:nC K x qual st f fd)(S:dY N ps (Zq st))(len:∀vs H Q E,sp vs H Q E->vs.length=ps.length)(hbody:∀(cdv:Yd) (A:aU) (outer:List b7) (s:Yg) (H:Hp) (vs:List V) (Q:VK) (E:XK),bZ k (A.deeper (jz qual (Zq st) s.heap.objs.size f cdv))->sp vs H Q E ->
   ∃t,gJ (lQ nA P w K mg base N qual (Zq st) f cdv A outer s H E).gw (gM st) t/\t {nx:=λ_ H'=>Q .non H',rt:=Q} (start N vs) H):dN P w K mg base nA (k+1) f fd ps sp:=by
 obtain⟨oc,od,dV,kV,doc,pm,an,cdv,ct,osl,rfl,lk,hcd⟩:=F.ex;refine Ie lk hcd S len λA outer s H vs Q E hr hsp=>?_;obtain⟨t,h,q⟩:=hbody cdv A outer s H vs Q E hr hsp;exact⟨t,h.gw,q⟩
theorem nC.binds{x qual:aj}{st:Ydr}{f:Yl}{fd:fC}{ps:List aj}(F:nC K x qual st f fd)(h:∀(dV kV doc pm:Yd) (an:Option Yl) (cdv ct:Yd) (us:List Yd),us.length=ps.length->bindArgs (pY x qual (nq st) (gM st) (Zq st) dV kV doc pm an cdv ct) ⟨us,[]⟩=pure (ps.zip us)):Binds K fd ps []:=by obtain⟨oc,od,dV,kV,doc,pm,an,cdv,ct,osl,rfl,lk,hcd⟩:=F.ex;exact .all (h dV kV doc pm an cdv ct)
theorem YF{x qual:aj}{st:Ydr}{f:Yl}{oc:Yd}{od an:Option Yl}{osl:Array (Option Yd)}{dV kV doc pm cdv ct:Yd}(l:K.lookup f=Ya ⟨oc,od,.func (pY x qual (nq st) (gM st) (Zq st) dV kV doc pm an cdv ct),osl⟩)(c:BK K cdv qual=true)(k:uJ K (.ref f)=true):nC K x qual st f (pY x qual (nq st) (gM st) (Zq st) dV kV doc pm an cdv ct):=⟨⟨oc,od,dV,kV,doc,pm,an,cdv,ct,osl,rfl,l,c⟩,k⟩
end
def vp(H H':Hp):Prop:=∀b o,H b=Ya o->H' b=Ya o
theorem vp.trans{H H1 H2:Hp}(a:vp H H1)(b:vp H1 H2):vp H H2:=λc o h=>b c o (a c o h)
theorem vp.free{H H':Hp}(e:vp H H'){l:Yl}(h:H' l=Option.none):H l=Option.none:=by
 cases q:H l with
 |none=>rfl|some o=>rw[e l o q]at h;cases h
theorem vp.seq{K:Yb}{H H':Hp}{a:Yl}{xs:List V}(e:vp H H')(h:bK K H a xs):bK K H' a xs:=by
 rcases h with(h|⟨o,h⟩)|h
 .exact .inl (.inl (e _ _ h))
 .exact .inl (.inr ⟨o,e _ _ h⟩)
 .exact .inr h
end L2
namespace L2
open PySem PySem.Spec PyProof.Rows
variable{o:Option V}{u:Yd}
section
variable {κ:Type} [DecidableEq κ]
noncomputable def jD(kvs:List (κ×V))(k:κ):Option V:=(kvs.find? λkv=>decide (kv.1=k)).map (·.2)
noncomputable def putK(kvs:List (κ×V))(k:κ)(v:V):List (κ×V):=if(kvs.any λkv=>decide (kv.1=k))=true then kvs.map (λkv=>if kv.1=k then(kv.1,v)else kv)else kvs++[(k,v)]
theorem ZmJ{k:κ}:jD ([]:List (κ×V)) k=Yi:=rfl
theorem Ij{p:κ×V}{r:List (κ×V)}{k:κ}(e:p.1=k):jD (p::r) k=Ya p.2:=by simp[jD,za,e]
theorem Ik{p:κ×V}{r:List (κ×V)}{k:κ}(e:¬p.1=k):jD (p::r) k=jD r k:=by simp[jD,za,e]
theorem YG(k:κ):∀kvs:List (κ×V),(kvs.any λkv=>decide (kv.1=k))=(jD kvs k).isSome
 |[]=>rfl|p::r=>by
  rw[p7];by_cases e:p.1=k
  .simp only[Ij e,decide_eq_true e,Bool.true_or,Tt]
  .rw[Ik e,decide_eq_false e,Vq];exact YG k r
theorem Zjm(kvs:List (κ×V))(k:κ)(v:V):(putK kvs k v).length<=kvs.length+1:=by
 unfold putK;split
 .rw[Yn];exact p_ _ _
 .rw[Y4,iC,wZ];exact lA 0 43162452160 T1
theorem lK.Aeg{u:Option Yd}(r:lK o u):o.isSome=u.isSome:=by
 cases o with
 |none=>cases u with
  |none=>rfl|some _=>exact(show False from r).elim
 |some _=>cases u with
  |none=>exact(show False from r).elim|some _=>rfl
theorem lK.getD{u:Option Yd}{d:V}{d':Yd}(r:lK o u)(rd:RelV d d'):RelV (o.getD d) (u.getD d'):=by
 cases o with
 |none=>cases u with
  |none=>exact rd|some _=>exact(show False from r).elim
 |some _=>cases u with
  |none=>exact(show False from r).elim|some _=>exact r
theorem KV.val{kvs:List (κ×V)}{vs:List (κ×Yd)}(r:KV kvs vs)(k:κ):lK (jD kvs k) (wU vs k):=by
 unfold KV at r
 induction r with
 |nil=>exact True.intro|@cons p q ps qs h t ih=>
  obtain⟨h1,h2⟩:=h;by_cases e:p.1=k
  .have e':q.1=k:=h1.symm.trans e;have b:wU (q::qs) k=Ya q.2:=by simp[wU,za,e']
   rw[Ij e,b];exact h2
  .have e':¬q.1=k:=λz=>e (h1.trans z);have b:wU (q::qs) k=wU qs k:=by simp[wU,za,e']
   rw[Ik e,b];exact ih
theorem KV.any{kvs:List (κ×V)}{vs:List (κ×Yd)}(r:KV kvs vs)(k:κ):(kvs.any λkv=>decide (kv.1=k))=vs.any λkv=>decide (kv.1=k):=by
 unfold KV at r
 induction r with
 |nil=>rfl|cons h t ih=>rw[p7,p7,ih,h.1]
theorem KV.repl{kvs:List (κ×V)}{vs:List (κ×Yd)}(r:KV kvs vs)(k:κ){y:V}(ry:RelV y u):
  KV (kvs.map λkv=>if kv.1=k then(kv.1,y)else kv) (vs.map λkv=>if kv.1=k then(kv.1,u)else kv):=by
 unfold KV at r ⊢
 induction r with
 |nil=>exact .nil|@cons p q ps qs h t ih=>
  rw[Yy,Yy];refine .cons ?_ ih;obtain⟨h1,h2⟩:=h;by_cases e:p.1=k
  .rw[if_pos e,if_pos (h1.symm.trans e)];exact⟨h1,ry⟩
  .rw[if_neg e,if_neg (λz=>e (h1.trans z))];exact⟨h1,h2⟩
theorem KV.put{kvs:List (κ×V)}{vs:List (κ×Yd)}(r:KV kvs vs)(k:κ){y:V}(ry:RelV y u):KV (putK kvs k y) (stored vs k u):=by
 unfold putK stored;rw[r.any k];by_cases e:(vs.any λkv=>decide (kv.1=k))=true
 .rw[if_pos e,if_pos e];exact r.repl k ry
 .rw[if_neg e,if_neg e];exact Paired.snoc r ⟨rfl,ry⟩
theorem KV.keys{kvs:List (κ×V)}{vs:List (κ×Yd)}(r:KV kvs vs):kvs.map (·.1)=vs.map (·.1):=by
 unfold KV at r
 induction r with
 |nil=>rfl|cons h t ih=>rw[Yy,Yy,ih,h.1]
theorem KV.length{kvs:List (κ×V)}{vs:List (κ×Yd)}(r:KV kvs vs):kvs.length=vs.length:=WK r
end
variable{w:aD}
theorem Oj{P:Yz}{k:Key}(r:RelV (kV k) u):(jV P w).is k u=true:=by
 cases k with
 |inl i=>obtain⟨t,e⟩:=(show∃t,u=Value.int i t from r);subst e;exact Zir P w i t|inr x=>obtain⟨t,e⟩:=(show∃t,u=Value.str x t from r);subst e;exact ZiK P w x t
theorem YH{P:Yz}{w:aD}:∀{ks:List Key} {us:List Yd},Vals (ks.map kV) us->ItemsAre (jV P w) ks us
 |[],_,r=>by rw[sZ]at r;cases r;exact .nil|k::ks,_,r=>by
  rw[Yy]at r;cases r with
  |cons h t=>exact .cons (Oj h) (YH t)
noncomputable abbrev KT(H:Hp):List (List Key×V)->List (List Key×Yl×Yd)->Prop:=Paired λp q=>p.1=q.1/\H q.2.1=Ya (.tup (p.1.map kV))/\RelV p.2 q.2.2
variable{H:Hp}{xs:List (List Key×Yl×Yd)}{kvs:List (List Key×V)}
theorem KT.val(r:KT H kvs xs)(k:List Key):lK (jD kvs k) ((sU xs k).map (·.2)):=by
 induction r with
 |nil=>exact True.intro|@cons p q ps qs h t ih=>
  obtain⟨h1,_,h2⟩:=h;by_cases e:p.1=k
  .have e':q.1=k:=h1.symm.trans e;have b:sU (q::qs) k=Ya q.2:=by simp[sU,za,e']
   rw[Ij e,b];exact h2
  .have e':¬q.1=k:=λz=>e (h1.trans z);have b:sU (q::qs) k=sU qs k:=by simp[sU,za,e']
   rw[Ik e,b];exact ih
theorem KT.repl(r:KT H kvs xs)(k:List Key){y:V}(ry:RelV y u):
  KT H (kvs.map λkv=>if kv.1=k then(kv.1,y)else kv) (xs.map (putAt k u)):=by
 induction r with
 |nil=>exact .nil|@cons p q ps qs h t ih=>
  rw[Yy,Yy];refine .cons ?_ ih;obtain⟨h1,h2,h3⟩:=h;unfold putAt;by_cases e:p.1=k
  .rw[if_pos e,if_pos (h1.symm.trans e)];exact⟨h1,h2,ry⟩
  .rw[if_neg e,if_neg (λz=>e (h1.trans z))];exact⟨h1,h2,h3⟩
theorem KT.put(r:KT H kvs xs)(k:List Key){b:Yl}{y:V}(hb:H b=Ya (.tup (k.map kV)))(ry:RelV y u):
  KT H (putK kvs k y) (storedH xs k b u):=by
 have e:(kvs.any λkv=>decide (kv.1=k))=(sU xs k).isSome:=by rw[YG,(r.val k).Aeg,Option.isSome_map]
 unfold putK storedH;rw[e];by_cases q:(sU xs k).isSome=true
 .rw[if_pos q,if_pos q];exact r.repl k ry
 .rw[if_neg q,if_neg q];exact Paired.snoc r ⟨rfl,hb,ry⟩
theorem KT.keeps{H':Hp}(r:KT H kvs xs)(ht:∀b ys,H b=Ya (.tup ys)->H' b=Ya (.tup ys)):KT H' kvs xs:=Paired.KN r λ_ _ z=>⟨z.1,ht _ _ z.2.1,z.2.2⟩
section
variable {P:Yz} {w:aD} {H:Hp} {h:ao} {a:Yl}
theorem YJ{u:HO}(ok:cJ P w H h)(e:Rd H a u):bR P w H h a u:=e.ok ok
theorem Ol{kvs:List (Key×V)}(ok:cJ P w H h)(e:Rd H a (.dK kvs)):kvs.length<=Y6/\(a==uQ)=false/\∃vs,KV kvs vs/\h.DictOf (jV P w) a vs:=show bR P w H h a (.dK kvs)from YJ ok e
theorem Ztb{kvs:List (Key×V)}(ok:cJ P w H h)(e:H a=Ya (.dK kvs)):kvs.length<=Y6/\(a==uQ)=false/\∃vs,KV kvs vs/\h.DictOf (jV P w) a vs:=Ol ok (.inl e)
theorem YK{ks:List Key}(ok:cJ P w H h)(e:H a=Ya (.tup (ks.map kV))):(Gg (jV P w)).is h ks a:=by obtain⟨_,its,r,o,h1,h2,n,h3⟩:=(show bR P w H h a (.tup (ks.map kV))from ok a _ e);exact⟨o,its.toArray,n,h1,h2.1,h3,by simpa using YH r⟩
theorem YL(ok:cJ P w H h)(e:Rd H a (.dT kvs)):kvs.length<=Y6/\(a==uQ)=false/\
  ∃xs,KT H kvs xs/\h.DictOfH (Gg (jV P w)) a xs:=by
 obtain⟨z,y,xs,r,o,es,ep,h1,h2,h3,h4,h5⟩:=(show bR P w H h a (.dT kvs)from YJ ok e);refine⟨z,y,xs,r,o,es,ep,h1,h2,h3,h4,λx hx=>?_,h5⟩;have all:∀{l:List (List Key×V)} {m:List (List Key×Yl×Yd)},KT H l m->∀x∈m,(Gg (jV P w)).is h x.1 x.2.1:=by
  intro l m q
  induction q with
  |nil=>intro x hx;exact nomatch hx|@cons p q ps qs hq t ih=>
   intro x hx;rcases Y5.mp hx with e|hx
   .subst e;exact YK ok (by rw[←hq.1];exact hq.2.1)
   .exact ih x hx
 exact all r x hx
end
def xH(H:Hp)(a:Yl)(y:V)(r:Option V):Prop:=(∃kvs k,Rd H a (.dK kvs)/\y=kV k/\r=jD kvs k)\/∃kvs k b,Rd H a (.dT kvs)/\y= .ref b/\H b=Ya (.tup (k.map kV))/\r=jD kvs k
def Il(H:Hp)(a:Yl)(y v:V)(H':Hp):Prop:=
 (∃kvs k,H a=Ya (.dK kvs)/\y=kV k/\kvs.length<Y6/\H'=upd H a (.dK (putK kvs k v)))\/
 ∃kvs k b,H a=Ya (.dT kvs)/\y= .ref b/\H b=Ya (.tup (k.map kV))/\kvs.length<Y6/\H'=upd H a (.dT (putK kvs k v))
theorem xH.k{H:Hp}{a:Yl}{kvs:List (Key×V)}{k:Key}(e:H a=Ya (.dK kvs)):xH H a (kV k) (jD kvs k):=.inl ⟨kvs,k,.inl e,rfl,rfl⟩
theorem xH.t{a b:Yl}{k:List Key}(e:H a=Ya (.dT kvs))(eb:H b=Ya (.tup (k.map kV))):xH H a (.ref b) (jD kvs k):=.inr ⟨kvs,k,b,.inl e,rfl,eb,rfl⟩
theorem Il.k{H:Hp}{a:Yl}{kvs:List (Key×V)}{k:Key}{v:V}(e:H a=Ya (.dK kvs))(hl:kvs.length<Y6):Il H a (kV k) v (upd H a (.dK (putK kvs k v))):=.inl ⟨kvs,k,e,rfl,hl,rfl⟩
theorem Il.t{a b:Yl}{k:List Key}{v:V}(e:H a=Ya (.dT kvs))(eb:H b=Ya (.tup (k.map kV)))(hl:kvs.length<Y6):
  Il H a (.ref b) v (upd H a (.dT (putK kvs k v))):=.inr ⟨kvs,k,b,e,rfl,eb,hl,rfl⟩
section
variable {X:Cx} {pins:List (Yl×aq)} {σ:St} {H:Hp} {s:Yg} {a:Yl} {y v:V} {u r:Yd} {o:Option V} {A:aU} {E:Yd->Yg->Prop}
theorem Inv.big(I:Inv X pins σ H s):uQ<s.heap.objs.size:=by have h:Y2<s.heap.objs.size:=(I.mod.glob.keeps I.bk).lt;exact tE (by decide) h
theorem Zlu{Q:Yd->Yg->Prop}(hu:A.units+1<fV)(I:Inv X pins σ H s)(g:xH H a y (Ya v))(ry:RelV y u)(h:∀w' s',Inv X pins σ H s'->RelV v w'->Q w' s'):
  Y1 (Y9 X.prog X.w) A (mV (.ref a) u) Q E s:=by
 rcases g with⟨kvs,k,e,ey,l⟩|⟨kvs,k,b,e,ey,eb,l⟩
 .subst ey;obtain⟨z,hd,vs,rel,dd⟩:=Ol I.hok e;obtain⟨w',hw,iG⟩:=lK.some_of (v:=v) (o:=wU vs k) (by rw[l];exact rel.val k);exact wpAny_getItem_of (Oj ry) dd.mapOf hw (h w' _ (I.tok _) iG)
 .subst ey;cases(show u=Value.ref b from ry);obtain⟨z,hd,xs,rel,dd⟩:=YL I.hok e;obtain⟨w',hw,iG⟩:=lK.some_of (v:=v) (o:=(sU xs k).map (·.2)) (by rw[l];exact rel.val k);obtain⟨p,hp,hp2⟩:=Tr.mp hw;refine wpAny_getItem_heap (tupleKind_room_in1 hu) (YK I.hok eb) dd hp ?_;rw[hp2];exact h w' _ (I.tok _) iG
theorem Zn3{h':ao}{t':Nat}{ob:HO}(I:Inv X pins σ H s)(mu:Dd (H a))(hs:y_ a s.heap h')(he:∃q,h'.get? a=Ya q)(new:bR X.prog X.w (upd H a ob) h' a ob):
  Inv X pins σ (upd H a ob) {s with heap:=h',toks:=t'}:=
 I.write (x:=a) (e:=a) mu (.inl rfl) (λb q hb z=>(hs.2 b hb).trans z) he new
theorem Zp7{P:Yz}{H':Hp}{h':ao}{kvs:List (Key×V)}{vs:List (Key×Yd)}(z:kvs.length<=Y6)(hd:(a==uQ)=false)(rel:KV kvs vs)(dd:h'.DictOf (jV P w) a vs):
  bR P w H' h' a (.dK kvs):=⟨z,hd,vs,rel,dd⟩
end
def zM(i:Expr):Prop:=∀ov iv,Gd i false ov iv=operate [ov,iv] (mV ov iv)
variable{pos:aF}
theorem YM{prog:Yz}{A:aU}{E:Yd->Yg->Prop}{s:Yg}{env:b7}{value slice:Expr}{T id:String}{Q:Yd->Yg->Prop}(hl:Lp (.type T) "__getitem__" =pure (Ya (.builtin id)))(hs:zM slice)(h:Y1 (Y9 prog w) A (aA value env) (λo s₁=>Y1 (Y9 prog w) A (aA slice env) (λi s₂=>s₂.TypeIs o T/\Y1 (Y9 prog w) A (mV o i) Q E s₂) E s₁) E s):
  Y1 (Y9 prog w) A (aA (.Subscript value slice pos) env) Q E s:=by
 refine MP (dw h (λo s₁ h₁=>dw h₁ (λi s₂ h₂=>?_) λ_ _ x=>x) λ_ _ x=>x);obtain⟨hT,h₂⟩:=h₂;unfold MN;refine Yc ?_;rw[getitemInPython_of_ne hT.not_modules];refine Yc (wpAny_specialOf hT hl ?_);have fin:Y1 (Y9 prog w) A (Gd slice false o i) (λr s₃=>Y1 (Y9 prog w) A (letTemporaryGo value o r>>=λ_=>pure r) Q E s₃) E s₂:=by rw[hs o i];exact wpAny_operating (dw h₂ (λr s₃ h₃=>Yc (wpAny_letTemporaryGo (Ym h₃))) λ_ _ x=>x)
 first
  |exact Ym (Yc fin)
  |exact Yc (Ym (Yc fin))
  |exact Yc fin
theorem ZiZ{X:Cx}{pins:List (Yl×aq)}{σ:St}{s:Yg}{a:Yl}{y:V}(I:Inv X pins σ H s)(g:xH H a y o):s.TypeIs (.ref a) "dict":=by
 rcases g with⟨kvs,k,e,_,_⟩|⟨kvs,k,b,e,_,_,_⟩
 .obtain⟨_,_,vs,_,dd⟩:=Ol I.hok e;exact dd.typeIs
 .obtain⟨_,_,xs,_,dd⟩:=YL I.hok e;exact dd.typeIs
def Zsx(td ty:TE):TE:=λσ H Q=>td σ H λx H1=>ty σ H1 λy H2=>∃a v,x= .ref a/\xH H2 a y (Ya v)/\Q v H2
section
variable {X:Cx} {o i e value:Expr} {pos pos' tpos:aF} {td ty tv:TE}
theorem ZnX(hu:X.A.units+1<fV)(ho:PE X o td)(hi:PE X i ty)(hs:zM i):PE X (.Subscript o i pos) (Zsx td ty):=by intro pins s σ H Q I h;refine YM PySem.F.slot_dict_getitem.lookup hs (aC (ho pins s σ H _ I h) λu s1 ⟨x,H1,I1,rx,q1⟩=>aC (hi pins s1 σ H1 _ I1 q1) λiv s2 ak=>?_);obtain⟨y,H2,I2,ry,a,v,ex,g,q2⟩:=ak;subst ex;obtain rfl:u=Value.ref a:=rx;exact⟨ZiZ I2 g,Zlu hu I2 g ry λw' s3 I3 iG=>⟨v,H2,I3,iG,q2⟩⟩
end
theorem Zmw{P:Yz}(h:ao)(hb:uQ<h.objs.size):bR P w H (h.push {cls:=.type "dict",data:=.dict #[]}) h.objs.size (.dK []):=⟨jy _,beq_eq_false_iff_ne.mpr (cP (dM hb)),[],.nil,Heap.DictOf.new h⟩
noncomputable def Im:List (TE×TE)->St->Hp->(List (V×V)->Hp->Prop)->Prop
 |[],_,H,Q=>Q [] H|(tk,tv)::r,σ,H,Q=>tk σ H λx H1=>tv σ H1 λy H2=>Im r σ H2 λps H3=>Q ((x,y)::ps) H3
noncomputable abbrev VV:List (V×V)->List (Yd×Yd)->Prop:=Paired λp q=>RelV p.1 q.1/\RelV p.2 q.2
def Dt(X:Cx)(pos:aF)(keys:List (Option Expr))(values:List Expr)(jX:List (TE×TE)):Prop:=
 ∀(pins:List (Yl×aq)) (s:Yg) (σ:St) (H:Hp) (Q:List (V×V)->Hp->Prop),Inv X pins σ H s->Im jX σ H Q ->
  Y1 (Y9 X.prog X.w) X.A (evalPairs (pairTrees keys values X.env pos)) (λvs s'=>∃ps H',Inv X pins σ H' s'/\VV ps vs/\Q ps H') X.xe s
theorem Zpd{X:Cx}:Dt X pos [] [] []:=λpins s σ H Q I h=>pairTrees_nil_walk ⟨[],H,I,.nil,h⟩
theorem ZmV{X:Cx}{k v:Expr}{ks:List (Option Expr)}{vs:List Expr}{tk tv:TE}{jX:List (TE×TE)}(hk:PE X k tk)(hv:PE X v tv)(hr:Dt X pos ks vs jX):
  Dt X pos (Ya k::ks) (v::vs) ((tk,tv)::jX):=λpins s σ H Q I h=>
 pairTrees_cons_walk (aC (hk pins s σ H _ I h) λu s1 ⟨x,H1,I1,rx,q1⟩=>aC (hv pins s1 σ H1 _ I1 q1) λw2 s2 ⟨y,H2,I2,ry,q2⟩=>aC (hr pins s2 σ H2 _ I2 q2) λws s3 ⟨ps,H3,I3,rel,q3⟩=>⟨(x,y)::ps,H3,I3,.cons ⟨rx,ry⟩ rel,q3⟩)
noncomputable def zN(kvs more:List (Key×V)):List (Key×V):=more.foldl (λacc kv=>putK acc kv.1 kv.2) kvs
theorem KV.merge:∀{more:List (Key×V)} {rs:List (Key×Yd)} {kvs:List (Key×V)} {vs:List (Key×Yd)},KV more rs->KV kvs vs->KV (zN kvs more) (merged vs rs):=by
 intro more rs kvs vs r;unfold KV at r
 induction r generalizing kvs vs with
 |nil=>intro q;exact q|@cons p q ps qs h t ih=>
  intro r0;have e:KV (putK kvs p.1 p.2) (stored vs q.1 q.2):=by have:=r0.put p.1 h.2;rw[←h.1];exact this
  exact ih e
theorem YQ:∀(more kvs:List (Key×V)),(zN kvs more).length<=kvs.length+more.length
 |[],kvs=>by show kvs.length<=kvs.length+0;exact p_ _ _|p::r,kvs=>by have h1:=YQ r (putK kvs p.1 p.2);have h2:=Zjm kvs p.1 p.2;show(zN (putK kvs p.1 p.2) r).length<=_;rw[iC];exact lD 2 0xa3c1c2030c201a1c001 T1 h2 h1
theorem YS{P:Yz}{w:aD}:∀{kvs:List (Key×V)} {ws:List (Yd×Yd)},VV (kvs.map λkv=>(kV kv.1,kv.2)) ws->∃rs,Carries (jV P w) ws rs/\KV kvs rs
 |[],_,r=>by rw[sZ]at r;cases r;exact⟨[],True.intro,.nil⟩|p::kvs,_,r=>by
  rw[Yy]at r;cases r with
  | @cons a b as bs h t=>obtain⟨rs,c,q⟩:=YS (P:=P) (w:=w) t;obtain⟨b1,b2⟩:=b;exact⟨(p.1,b2)::rs,⟨Oj h.1,rfl,c⟩,.cons ⟨rfl,h.2⟩ q⟩
def ZtA(jX:List (TE×TE)):TE:=λσ H Q=>∀p,H p=Yi->Im jX σ (upd H p (.dK [])) λps H2=>H2 p=Ya (.dK [])/\∃kvs:List (Key×V),ps=kvs.map (λkv=>(kV kv.1,kv.2))/\kvs.length<=15/\Q (.ref p) (upd H2 p (.dK (zN [] kvs)))
theorem Zoc{X:Cx}{keys:List (Option Expr)}{values:List Expr}{jX:List (TE×TE)}(h:Dt X pos keys values jX)(hall:keys.all (·.isSome)=true)(hl:keys.length=values.length)(h0:keys≠[])(h15:keys.length<=15):PE X (.Dict keys values pos) (ZtA jX):=by
 intro pins s σ H Q I q;have hn:=I.hok.fresh (Yq s.heap.objs.size);have I1:=I.laid (a:=s.heap.objs.size) (o:=.dK []) (h':=s.heap.push {cls:=.type "dict",data:=.dict #[]}) (t':=s.toks) (λ_ _ q=>Yh _ q) (Yq _) (Zmw s.heap I.big);refine wpAny_Dict_walk (knd:=jV X.prog X.w) hall hl h0 h15 (aC (h pins _ σ _ _ I1 (q _ hn)) λws s2 ak=>?_);obtain⟨ps,H2,I2,rel,e,kvs,ep,lk,q2⟩:=ak;subst ep;obtain⟨rs,c,rk⟩:=YS (P:=X.prog) (w:=X.w) rel;obtain⟨z,hd,vs0,r0,dd⟩:=Ztb I2.hok e;cases r0;refine⟨rs,c,dd,λh' YT hs=>⟨.ref s.heap.objs.size,_,?_,rfl,q2⟩⟩;have hz:(zN [] kvs).length<=Y6:=by have h1:=YQ kvs [];rw[wZ]at h1;rw[iy];exact lB 2 0x10000007b00f1b1011ec001 T1 h1 lk
 have he:∃q,h'.get? s.heap.objs.size=Ya q:=let⟨q,_,_,hq,_⟩:=YT;⟨q,hq⟩;exact Zn3 I2 (by rw[e];exact True.intro) hs he (Zp7 hz hd (rk.merge .nil) YT)
structure M1(X:Cx)(o:Expr)(m:aj)(apos:aF)(e:Expr)(cpos:aF):Prop where
 base:sH o m X.env (aA o X.env)=aA o X.env
 few:((bI cpos (Yk [e] X.env)).all (λx=>!x.1)&&(ju cpos (jt [] X.env)).all (λx=>x.1.isSome)
  &&decide (([e]:List Expr).length+([]:List Keyword).length+(if([]:List Keyword).isEmpty then 0 else 1)<30))=true
 line:(apos.endLine==cpos.line)=true
 trees:bI cpos (Yk [e] X.env)=[(false,aA e X.env)]
structure M2(X:Cx)(o:Expr)(m:aj)(apos:aF)(e f:Expr)(cpos:aF):Prop where
 base:sH o m X.env (aA o X.env)=aA o X.env
 few:((bI cpos (Yk [e,f] X.env)).all (λx=>!x.1)&&(ju cpos (jt [] X.env)).all (λx=>x.1.isSome)
  &&decide (([e,f]:List Expr).length+([]:List Keyword).length+(if([]:List Keyword).isEmpty then 0 else 1)<30))=true
 line:(apos.endLine==cpos.line)=true
 trees:bI cpos (Yk [e,f] X.env)=[(false,aA e X.env),(false,aA f X.env)]
end L2
namespace L3
open PySem
variable{it:gO}{env:Zt}{T:qF}{M:Store}{hi lo:Option Int}
noncomputable section
inductive D where
 |non|bl (b:Bool)|int (i:Int)|str (x:List Nat)|tup (ds:List D)|aV (ds:List D)|ref (n:Nat)
 deriving Inhabited
noncomputable abbrev dh:=Sum Int (List Nat)
inductive MO where
 |lst (xs:List D)|dct (kvs:List (dh×D))|cO (kvs:List (dh×D))|ins (c:List Nat) (fs:List (List Nat×D))
 deriving Inhabited
noncomputable abbrev Store:=List MO
structure X3 where
 cls:List Nat
 arg:D
inductive R3(α:Type)where
 |ok (a:α) (M:Store)|exc (x:X3) (M:Store)|bad
@[simp] noncomputable def R3.bind{α β:Type}(r:R3 α)(k:α->Store->R3 β):R3 β:=match r with
 | .ok a M=>k a M|.exc x M=>.exc x M|.bad=>.bad
theorem R3.Agt{α β:Type}(a:α)(M:Store)(k:α->Store->R3 β):(R3.ok a M).bind k=k a M:=rfl
theorem ft{C:Prop}(h:false=true):C:=Bool.noConfusion h
theorem fW{α:Type}{C:Prop}{k:α}(h:Yi=Ya k):C:=by cases h
noncomputable def bV:Nat->D->Bool
 |_,.non=>true|_,.bl _=>true|_,.int _=>true|_,.str _=>true
 |n+1,.tup ds=>ds.all (bV n)|_,_=>false
noncomputable abbrev DEEP:Nat:=60
mutual
noncomputable def e_:D->D->Bool
 | .non,.non=>true|.bl a,.bl b=>a==b|.int a,.int b=>a==b|.str a,.str b=>a==b
 | .tup a,.tup b=>fH a b|.bl a,.int b=>(if a then 1 else 0)==b|.int a,.bl b=>a==(if b then 1 else 0)|_,_=>false
noncomputable def fH:List D->List D->Bool
 |[],[]=>true|a::x,b::y=>e_ a b&&fH x y|_,_=>false
end
theorem Om(a b:List Nat):e_ (.str a) (.str b)=(a==b):=rfl
theorem YW(a b:List D):e_ (.tup a) (.tup b)=fH a b:=rfl
theorem Zqj:fH [] []=true:=rfl
theorem Oo(a b:D)(x y:List D):fH (a::x) (b::y)=(e_ a b&&fH x y):=rfl
theorem Zog(n:Nat):bV n .non=true:=by cases n<;>rfl
theorem Zn0(n:Nat)(b:Bool):bV n (.bl b)=true:=by cases n<;>rfl
theorem ZnY(n:Nat)(i:Int):bV n (.int i)=true:=by cases n<;>rfl
theorem Zpc(n:Nat)(x:List Nat):bV n (.str x)=true:=by cases n<;>rfl
theorem Zpk(n:Nat)(ds:List D):bV (n+1) (.tup ds)=ds.all (bV n):=rfl
mutual
noncomputable def below(n:Nat):D->Bool
 | .tup ds=>dH n ds|.aV ds=>dH n ds|.ref k=>k<n|.non=>true| .bl _=>true| .int _=>true| .str _=>true
noncomputable def dH(n:Nat):List D->Bool
 |[]=>true|d::ds=>below n d&&dH n ds
end
mutual
noncomputable def same:D->D->Bool
 | .non,.non=>true|.bl a,.bl b=>a==b|.int a,.int b=>a==b|.str a,.str b=>a==b
 | .tup a,.tup b=>zO a b|.aV a,.aV b=>zO a b|.ref a,.ref b=>a==b|_,_=>false
noncomputable def zO:List D->List D->Bool
 |[],[]=>true|a::x,b::y=>same a b&&zO x y|_,_=>false
end
mutual
theorem YX:∀{a b:D},same a b=true->a=b
 | .non,b,h=>by cases b<;>first|exact rfl|exact ft h
 | .bl a,b,h=>by cases b<;>first|exact congrArg D.bl (beq_iff_eq.mp h)|exact ft h
 | .int a,b,h=>by cases b<;>first|exact congrArg D.int (beq_iff_eq.mp h)|exact ft h
 | .str a,b,h=>by cases b<;>first|exact congrArg D.str (beq_iff_eq.mp h)|exact ft h
 | .tup a,b,h=>by cases b<;>first|exact congrArg D.tup (Oq h)|exact ft h
 | .aV a,b,h=>by cases b<;>first|exact congrArg D.aV (Oq h)|exact ft h
 | .ref a,b,h=>by cases b<;>first|exact congrArg D.ref (beq_iff_eq.mp h)|exact ft h
theorem Oq:∀{x y:List D},zO x y=true->x=y
 |[],y,h=>by cases y<;>first|exact rfl|exact ft h
 |a::x,y,h=>by
  cases y with
  |nil=>exact ft h|cons b y=>exact have w:=Yaw.mp (h:(same a b&&zO x y)=true);congr (congrArg _ (YX w.1)) (Oq w.2)
end
mutual
theorem YZ:∀(a:D),same a a=true
 | .non=>rfl|.bl a=>beq_self_eq_true a|.int a=>beq_self_eq_true a|.str a=>beq_self_eq_true a
 | .tup a=>Ot a|.aV a=>Ot a|.ref a=>beq_self_eq_true a
theorem Ot:∀(x:List D),zO x x=true
 |[]=>rfl|a::x=>Yaw.mpr ⟨YZ a,Ot x⟩
end
theorem same_iff{a b:D}:same a b=true↔a=b:=⟨YX,λh=>h▸YZ a⟩
noncomputable instance:DecidableEq D:=λa b=>decidable_of_iff (same a b=true) same_iff
noncomputable instance:DecidableEq MO:=λa b=>match a,b with
 | .lst x,.lst y=>if h:x=y then isTrue (by rw[h])else isFalse (by intro e;cases e;exact h rfl)|.dct x,.dct y=>if h:x=y then isTrue (by rw[h])else isFalse (by intro e;cases e;exact h rfl)|.cO x,.cO y=>if h:x=y then isTrue (by rw[h])else isFalse (by intro e;cases e;exact h rfl)|.ins c x,.ins d y=>if h:c=d/\x=y then isTrue (by rw[h.1,h.2])else isFalse (by intro e;cases e;exact h ⟨rfl,rfl⟩)
 | .ins _ _,.lst _=>isFalse (by intro e;cases e)|.ins _ _,.dct _=>isFalse (by intro e;cases e)|.ins _ _,.cO _=>isFalse (by intro e;cases e)|.lst _,.ins _ _=>isFalse (by intro e;cases e)
 | .dct _,.ins _ _=>isFalse (by intro e;cases e)|.cO _,.ins _ _=>isFalse (by intro e;cases e)|.lst _,.dct _=>isFalse (by intro e;cases e)|.lst _,.cO _=>isFalse (by intro e;cases e)
 | .dct _,.lst _=>isFalse (by intro e;cases e)|.dct _,.cO _=>isFalse (by intro e;cases e)|.cO _,.lst _=>isFalse (by intro e;cases e)|.cO _,.dct _=>isFalse (by intro e;cases e)
@[simp] noncomputable abbrev SZ:Nat:=1000000
noncomputable abbrev Zt:=List (Option D)
noncomputable abbrev E3:=Zt->Store->R3 D
noncomputable abbrev bW:=Zt->Store->R3 (List D)
noncomputable abbrev F3:=List D->Store->R3 D
inductive O3 where
 |nx (env:Zt) (M:Store)|rt (d:D) (M:Store)|bk (env:Zt) (M:Store)|ct (env:Zt) (M:Store)|exc (x:X3) (M:Store)|bad
noncomputable abbrev S3:=Zt->Store->O3
@[simp] noncomputable def Zc(i:Nat):E3:=λenv M=>match env[i]? with
 |some (Ya d)=>.ok d M|_=>.bad
@[simp] noncomputable def eC(d:D):E3:=λ_ M=>.ok d M
@[simp] noncomputable def e1(op:D->Store->R3 D)(f:E3):E3:=λenv M=>(f env M).bind op
@[simp] noncomputable def e2(op:D->D->Store->R3 D)(f g:E3):E3:=λenv M=>(f env M).bind λa M1=>(g env M1).bind λb M2=>op a b M2
@[simp] noncomputable def Zd:bW:=λ_ M=>.ok [] M
@[simp] noncomputable def Za(f:E3)(g:bW):bW:=λenv M=>(f env M).bind λa M1=>(g env M1).bind λb M2=>.ok (a::b) M2
@[simp] noncomputable def alloc(o:MO)(M:Store):R3 D:=.ok (.ref M.length) (M++[o])
section
local instance (priority:=100000) Ahn (p:Prop):Decidable p:=Yp p
@[simp] noncomputable def iH(g:bW):E3:=λenv M=>(g env M).bind λds M1=>if ds.length<=SZ then .ok (.tup ds) M1 else .bad
end
section
local instance (priority:=100000) Aho (p:Prop):Decidable p:=Yp p
@[simp] noncomputable def aB(g:bW):E3:=λenv M=>(g env M).bind λds M1=>if ds.length<=SZ then alloc (.lst ds) M1 else .bad
end
@[simp] noncomputable def cu(f g:E3):E3:=λenv M=>(f env M).bind λa M1=>match a with
 | .bl true=>g env M1|.bl false=>.ok (.bl false) M1|_=>.bad
@[simp] noncomputable def gA(f g:E3):E3:=λenv M=>(f env M).bind λa M1=>match a with
 | .bl false=>g env M1|.bl true=>.ok (.bl true) M1|_=>.bad
noncomputable def fX(a:D)(M:Store):R3 D:=match a with
 | .bl b=>.ok (.bl (!b)) M|_=>.bad
@[simp] theorem Ztp:∀b,fX (.bl b) M= .ok (.bl (!b)) M:=λ_=>rfl
@[simp] noncomputable def vy(c f g:E3):E3:=λenv M=>(c env M).bind λa M1=>match a with
 | .bl true=>f env M1|.bl false=>g env M1|_=>.bad
@[simp] noncomputable def aN(F:F3)(g:bW):E3:=λenv M=>(g env M).bind λds M1=>F ds M1
section
local instance (priority:=100000) Ahp (p:Prop):Decidable p:=Yp p
noncomputable def di(a b:D)(M:Store):R3 D:=match a,b with
 | .int i,.int j=>.ok (.int (i+j)) M|.str x,.str y=>if x.length+y.length<=SZ then .ok (.str (x++y)) M else .bad|.tup x,.tup y=>if x.length+y.length<=SZ then .ok (.tup (x++y)) M else .bad|.ref n,.ref m=>match M[n]?,M[m]? with
  |some (.lst x),Ya (.lst y)=>if x.length+y.length<=SZ then alloc (.lst (x++y)) M else .bad|_,_=>.bad
 |_,_=>.bad
@[simp] theorem Zto:∀i j,di (.int i) (.int j) M= .ok (.int (i+j)) M:=λ_ _=>rfl
@[simp] theorem ZtF:∀x y,di (.str x) (.str y) M=(if x.length+y.length<=SZ then .ok (.str (x++y)) M else .bad):=λ_ _=>rfl
@[simp] theorem ZsD:∀x y,di (.tup x) (.tup y) M=(if x.length+y.length<=SZ then .ok (.tup (x++y)) M else .bad):=λ_ _=>rfl
@[simp] theorem ZnB:∀n m,di (.ref n) (.ref m) M=(match M[n]?,M[m]? with
  |some (.lst x),Ya (.lst y)=>if x.length+y.length<=SZ then alloc (.lst (x++y)) M else .bad|_,_=>.bad):=λ_ _=>rfl
end
noncomputable def xJ(a b:D)(M:Store):R3 D:=match a,b with
 | .int i,.int j=>.ok (.int (i-j)) M|_,_=>.bad
@[simp] theorem Zsf:∀i j,xJ (.int i) (.int j) M= .ok (.int (i-j)) M:=λ_ _=>rfl
section
local instance (priority:=100000) Ahq (p:Prop):Decidable p:=Yp p
noncomputable def Y_(i j:Int):Bool:=(decide (-(2^64)<i)&&decide (i<2^64))|| (decide (-(2^64)<j)&&decide (j<2^64))
end
section
local instance (priority:=100000) Ahr (p:Prop):Decidable p:=Yp p
noncomputable def Ou(a b:D)(M:Store):R3 D:=match a,b with
 | .int i,.int j=>if Y_ i j then .ok (.int (i*j)) M else .bad|.str x,.int k=>if x.length*k.toNat<=SZ/\k<1000000/\ -1000000<k then .ok (.str (Yt k.toNat x).flatten) M else .bad|.ref n,.int k=>match M[n]? with
  |some (.lst x)=>if x.length*k.toNat<=SZ/\k<1000000/\ -1000000<k then alloc (.lst (Yt k.toNat x).flatten) M else .bad|_=>.bad
 |_,_=>.bad
@[simp] theorem Zsv:∀i j,Ou (.int i) (.int j) M=(if Y_ i j then .ok (.int (i*j)) M else .bad):=λ_ _=>rfl
@[simp] theorem ZsJ:∀x k,Ou (.str x) (.int k) M=(if x.length*k.toNat<=SZ/\k<1000000/\ -1000000<k then .ok (.str (Yt k.toNat x).flatten) M else .bad):=λ_ _=>rfl
@[simp] theorem Zts:∀n k,Ou (.ref n) (.int k) M=(match M[n]? with
  |some (.lst x)=>if x.length*k.toNat<=SZ/\k<1000000/\ -1000000<k then alloc (.lst (Yt k.toNat x).flatten) M else .bad|_=>.bad):=λ_ _=>rfl
end
noncomputable def bO(a b:D)(M:Store):R3 D:=match a,b with
 | .int i,.int j=>if 0<j then .ok (.int (i % j)) M else .bad|_,_=>.bad
@[simp] theorem ZC:∀i j,bO (.int i) (.int j) M=(if 0<j then .ok (.int (i % j)) M else .bad):=λ_ _=>rfl
section
local instance (priority:=100000) Ahs (p:Prop):Decidable p:=Yp p
noncomputable def cF(a b:D)(M:Store):R3 D:=match a,b with
 | .int i,.int j=>if 0<j/\j<1073741824 then .ok (.int (i / j)) M else .bad|_,_=>.bad
@[simp] theorem ZD:∀i j,cF (.int i) (.int j) M=(if 0<j/\j<1073741824 then .ok (.int (i / j)) M else .bad):=λ_ _=>rfl
end
noncomputable def nD(a b:D)(M:Store):R3 D:=match a,b with
 | .int i,.int j=>if 0<=j/\j<=1000/\i.natAbs<1000 then .ok (.int (i^j.toNat)) M else .bad|_,_=>.bad
@[simp] theorem ZF:∀i j,nD (.int i) (.int j) M=(if 0<=j/\j<=1000/\i.natAbs<1000 then .ok (.int (i^j.toNat)) M else .bad):=λ_ _=>rfl
noncomputable def cA(a:D)(M:Store):R3 D:=match a with
 | .int i=>.ok (.int (-i)) M|_=>.bad
@[simp] theorem ZsE:∀i,cA (.int i) M= .ok (.int (-i)) M:=λ_=>rfl
noncomputable def jY(a b:D)(M:Store):R3 D:=match a,b with
 | .int i,.int j=>.ok (.bl (decide (i<j))) M|_,_=>.bad
@[simp] theorem zP:∀i j,jY (.int i) (.int j) M= .ok (.bl (decide (i<j))) M:=λ_ _=>rfl
noncomputable def nF(a b:D)(M:Store):R3 D:=match a,b with
 | .int i,.int j=>.ok (.bl (decide (j<i))) M|_,_=>.bad
@[simp] theorem ZG:∀i j,nF (.int i) (.int j) M= .ok (.bl (decide (j<i))) M:=λ_ _=>rfl
noncomputable def vz(a b:D)(M:Store):R3 D:=match a,b with
 | .int i,.int j=>.ok (.bl (decide (j<=i))) M|_,_=>.bad
@[simp] theorem Ov:∀i j,vz (.int i) (.int j) M= .ok (.bl (decide (j<=i))) M:=λ_ _=>rfl
noncomputable def oM(a b:D)(M:Store):Option Bool:=match a,b with
 | .ref n,.ref m=>match M[n]?,M[m]? with
  |some (.lst x),Ya (.lst y)=>if x.all (bV DEEP)&&y.all (bV DEEP)then Ya (fH x y)else Yi|_,_=>Yi
 | .int i,.int j=>Ya (decide (i=j))|.str x,.str y=>Ya (decide (x=y))|.bl x,.bl y=>Ya (decide (x=y))|.tup x,.tup y=>if x.all (bV DEEP)&&y.all (bV DEEP)then Ya (fH x y)else Yi
 |_,_=>Yi
@[simp] theorem xK:∀n m,oM (.ref n) (.ref m) M=(match M[n]?,M[m]? with
  |some (.lst x),Ya (.lst y)=>if x.all (bV DEEP)&&y.all (bV DEEP)then Ya (fH x y)else Yi|_,_=>Yi):=λ_ _=>rfl
@[simp] theorem xM:∀i j,oM (.int i) (.int j) M=Ya (decide (i=j)):=λ_ _=>rfl
@[simp] theorem xN:∀x y,oM (.str x) (.str y) M=Ya (decide (x=y)):=λ_ _=>rfl
@[simp] theorem xO:∀x y,oM (.bl x) (.bl y) M=Ya (decide (x=y)):=λ_ _=>rfl
@[simp] theorem xP:∀x y,oM (.tup x) (.tup y) M=(if x.all (bV DEEP)&&y.all (bV DEEP)then Ya (fH x y)else Yi):=λ_ _=>rfl
@[simp] noncomputable def cQ(a b:D)(M:Store):R3 D:=match oM a b M with
 |some r=>.ok (.bl r) M|none=>.bad
@[simp] noncomputable def Du(a b:D)(M:Store):R3 D:=match oM a b M with
 |some r=>.ok (.bl (!r)) M|none=>.bad
noncomputable def vA(a b:D)(M:Store):R3 D:=match b with
 | .non=>.ok (.bl (decide (a= .non))) M|_=>.bad
@[simp] theorem ZJ{a:D}:vA a (.non) M= .ok (.bl (decide (a= .non))) M:=rfl
noncomputable def d_:D->Bool
 | .non=>true| .bl _=>true| .int _=>true| .str _=>true|_=>false
noncomputable def Ow(a:D)(y:List Nat):Option Bool:=match a with
 | .str [c]=>Ya (decide (c∈y))|_=>Yi
@[simp] theorem ZuF{y:List Nat}:∀c,Ow (.str [c]) y=Ya (decide (c∈y)):=λ_=>rfl
noncomputable def inD(a b:D):Option Bool:=match b with
 | .str y=>Ow a y|.tup ys=>if d_ a&&ys.all d_ then Ya (ys.any λy=>e_ y a)else Yi|_=>Yi
@[simp] theorem ZK{a:D}:∀y,inD a (.str y)=Ow a y:=λ_=>rfl
@[simp] theorem ZL{a:D}:∀ys,inD a (.tup ys)=(if d_ a&&ys.all d_ then Ya (ys.any λy=>e_ y a)else Yi):=λ_=>rfl
@[simp] noncomputable def fJ(a b:D)(M:Store):R3 D:=match inD a b with
 |some r=>.ok (.bl r) M|none=>.bad
@[simp] noncomputable def Dv(a b:D)(M:Store):R3 D:=match inD a b with
 |some r=>.ok (.bl (!r)) M|none=>.bad
noncomputable def jE(n:Nat)(i:Int):Option Nat:=if 0<=i then(if i<n then Ya i.toNat else Yi)else if -(n:Int)<=i then Ya (i+n).toNat else Yi
noncomputable def dz{α:Type}(xs:List α)(i:Int):Option α:=(jE xs.length i).bind λj=>xs[j]?
noncomputable def lR:D->Option dh
 | .int i=>Ya (.inl i)|.str x=>Ya (.inr x)|_=>Yi
@[simp] theorem Zuo:lR .non=Yi:=rfl
@[simp] theorem Zuz(b:Bool):lR (.bl b)=Yi:=rfl
@[simp] theorem Zuc(x:List D):lR (.tup x)=Yi:=rfl
@[simp] theorem ZuP(x:List D):lR (.aV x)=Yi:=rfl
@[simp] theorem ZuZ(n:Nat):lR (.ref n)=Yi:=rfl
@[simp] theorem Zt3:∀i,lR (.int i)=Ya (.inl i):=λ_=>rfl
@[simp] theorem Zub:∀x,lR (.str x)=Ya (.inr x):=λ_=>rfl
noncomputable def vB:List (dh×D)->dh->Option D
 |[],_=>Yi|(k,v)::r,x=>if k=x then Ya v else vB r x
section
local instance (priority:=100000) Aht (p:Prop):Decidable p:=Yp p
noncomputable def Zv(a b:D)(M:Store):R3 D:=match a,b with
 | .tup ds,.int i=>match dz ds i with
  |some d=>.ok d M|none=>.bad
 | .aV ds,.int i=>match dz ds i with
  |some d=>.ok d M|none=>.bad
 | .str x,.int i=>match dz x i with
  |some c=>if x.length<=SZ then .ok (.str [c]) M else .bad|none=>.bad
 | .ref n,.int i=>match M[n]? with
  |some (.lst ds)=>match dz ds i with
   |some d=>.ok d M|none=>.bad
  |_=>.bad
 |_,_=>.bad
@[simp] theorem Ox:∀ds i,Zv (.tup ds) (.int i) M=(match dz ds i with
  |some d=>.ok d M|none=>.bad):=λ_ _=>rfl
@[simp] theorem Oz:∀ds i,Zv (.aV ds) (.int i) M=(match dz ds i with
  |some d=>.ok d M|none=>.bad):=λ_ _=>rfl
@[simp] theorem OD:∀x i,Zv (.str x) (.int i) M=(match dz x i with
  |some c=>if x.length<=SZ then .ok (.str [c]) M else .bad|none=>.bad):=λ_ _=>rfl
@[simp] theorem OJ:∀n i,Zv (.ref n) (.int i) M=(match M[n]? with
  |some (.lst ds)=>match dz ds i with
   |some d=>.ok d M|none=>.bad
  |_=>.bad):=λ_ _=>rfl
end
noncomputable def tX:Option MO->Option (List (dh×D))
 |some (.dct kvs)=>Ya kvs|some (.cO kvs)=>Ya kvs|_=>Yi
@[simp] theorem ZtO:tX Yi=Yi:=rfl
@[simp] theorem Zt7(x:List D):tX (Ya (.lst x))=Yi:=rfl
@[simp] theorem ZtH(c:List Nat)(f:List (List Nat×D)):tX (Ya (.ins c f))=Yi:=rfl
@[simp] theorem Zsa:∀kvs,tX (Ya (.dct kvs))=Ya kvs:=λ_=>rfl
@[simp] theorem Zsd:∀kvs,tX (Ya (.cO kvs))=Ya kvs:=λ_=>rfl
noncomputable def xQ(a b:D)(M:Store):R3 D:=match a with
 | .ref n=>match tX M[n]?,lR b with
  |some kvs,Ya x=>match vB kvs x with
   |some d=>.ok d M|none=>.bad
  |_,_=>.bad
 |_=>.bad
@[simp] theorem ZM{b:D}:∀n,xQ (.ref n) b M=(match tX M[n]?,lR b with
  |some kvs,Ya x=>match vB kvs x with
   |some d=>.ok d M|none=>.bad
  |_,_=>.bad):=λ_=>rfl
noncomputable def au(n d:Nat):Option Int->Nat
 |none=>d|some v=>if v<0 then(v+(n:Int)).toNat else fG v.toNat n
noncomputable def cutD{α:Type}(xs:List α)(lo hi:Option Int):List α:=(xs.drop (au xs.length 0 lo)).take (au xs.length xs.length hi-au xs.length 0 lo)
noncomputable abbrev tY:=Zt->Store->R3 (Option Int)
@[simp] noncomputable def eE:tY:=λ_ M=>.ok Yi M
@[simp] noncomputable def b_(f:E3):tY:=λenv M=>(f env M).bind λa M1=>match a with
 | .int i=>.ok (Ya i) M1|_=>.bad
section
local instance (priority:=100000) Ahu (p:Prop):Decidable p:=Yp p
noncomputable def zQ(a:D)(lo hi:Option Int)(M:Store):R3 D:=match a with
 | .tup ds=>.ok (.tup (cutD ds lo hi)) M|.aV ds=>alloc (.lst (cutD ds lo hi)) M|.str x=>if x.length<=SZ then .ok (.str (cutD x lo hi)) M else .bad|.ref n=>match M[n]? with
  |some (.lst ds)=>alloc (.lst (cutD ds lo hi)) M|_=>.bad
 |_=>.bad
@[simp] theorem qG:∀ds,zQ (.tup ds) lo hi M= .ok (.tup (cutD ds lo hi)) M:=λ_=>rfl
@[simp] theorem qH:∀ds,zQ (.aV ds) lo hi M=alloc (.lst (cutD ds lo hi)) M:=λ_=>rfl
@[simp] theorem qI:∀x,zQ (.str x) lo hi M=(if x.length<=SZ then .ok (.str (cutD x lo hi)) M else .bad):=λ_=>rfl
@[simp] theorem qJ:∀n,zQ (.ref n) lo hi M=(match M[n]? with
  |some (.lst ds)=>alloc (.lst (cutD ds lo hi)) M|_=>.bad):=λ_=>rfl
end
@[simp] noncomputable def cG(f:E3)(lo hi:tY):E3:=λenv M=>(f env M).bind λa M1=>(lo env M1).bind λl M2=>(hi env M2).bind λh M3=>zQ a l h M3
section
local instance (priority:=100000) Ahv (p:Prop):Decidable p:=Yp p
noncomputable def cH(ds:List D)(M:Store):R3 D:=match ds with
 |[.tup x]=>.ok (.int x.length) M|[.aV x]=>.ok (.int x.length) M|[.str x]=>if x.length<=SZ then .ok (.int x.length) M else .bad|[.ref n]=>match M[n]? with
  |some (.lst x)=>.ok (.int x.length) M|_=>.bad
 |_=>.bad
@[simp] theorem Io:∀x,cH ([.tup x]) M= .ok (.int x.length) M:=λ_=>rfl
@[simp] theorem Ip:∀x,cH ([.aV x]) M= .ok (.int x.length) M:=λ_=>rfl
@[simp] theorem Ir:∀x,cH ([.str x]) M=(if x.length<=SZ then .ok (.int x.length) M else .bad):=λ_=>rfl
@[simp] theorem vC:∀n,cH ([.ref n]) M=(match M[n]? with
  |some (.lst x)=>.ok (.int x.length) M|_=>.bad):=λ_=>rfl
end
noncomputable def qK(ds:List D)(M:Store):R3 D:=match ds with
 |[.tup x]=>.ok (.tup x) M|[.aV x]=>.ok (.tup x) M|[.ref n]=>match M[n]? with
  |some (.lst x)=>.ok (.tup x) M|_=>.bad
 |_=>.bad
@[simp] theorem ZP:∀x,qK ([.tup x]) M= .ok (.tup x) M:=λ_=>rfl
@[simp] theorem ZQ:∀x,qK ([.aV x]) M= .ok (.tup x) M:=λ_=>rfl
@[simp] theorem zR:∀n,qK ([.ref n]) M=(match M[n]? with
  |some (.lst x)=>.ok (.tup x) M|_=>.bad):=λ_=>rfl
noncomputable def vD(ds:List D)(M:Store):R3 D:=match ds with
 |[.tup x]=>alloc (.lst x) M|[.aV x]=>alloc (.lst x) M|[.ref n]=>match M[n]? with
  |some (.lst x)=>alloc (.lst x) M|_=>.bad
 |_=>.bad
@[simp] theorem Zmm:∀x,vD ([.tup x]) M=alloc (.lst x) M:=λ_=>rfl
@[simp] theorem Zmk:∀x,vD ([.aV x]) M=alloc (.lst x) M:=λ_=>rfl
@[simp] theorem zT:∀n,vD ([.ref n]) M=(match M[n]? with
  |some (.lst x)=>alloc (.lst x) M|_=>.bad):=λ_=>rfl
inductive qF where
 |int|bool|str|list|tuple
 deriving DecidableEq
noncomputable def qL(T:qF)(d:D)(M:Store):Option Bool:=match d with
 | .non=>Ya false|.bl _=>Ya (T== .bool|| T== .int)|.int _=>Ya (T== .int)|.str _=>Ya (T== .str)
 | .tup _=>Ya (T== .tuple)|.aV _=>Yi|.ref n=>match M[n]? with
  |some (.lst _)=>Ya (T== .list)|some (.dct _)=>Ya false|some (.cO _)=>Yi|some (.ins _ _)=>Yi
  |none=>Yi
@[simp] theorem ZtT:qL T (.non) M=Ya false:=rfl
@[simp] theorem Zt5:∀w0,qL T (.bl w0) M=Ya (T== .bool|| T== .int):=λ_=>rfl
@[simp] theorem ZtJ:∀w0,qL T (.int w0) M=Ya (T== .int):=λ_=>rfl
@[simp] theorem Zt1:∀w0,qL T (.str w0) M=Ya (T== .str):=λ_=>rfl
@[simp] theorem ZtM:∀w0,qL T (.tup w0) M=Ya (T== .tuple):=λ_=>rfl
@[simp] theorem Zt4:∀w0,qL T (.aV w0) M=Yi:=λ_=>rfl
@[simp] theorem ZtS:∀n,qL T (.ref n) M=(match M[n]? with
  |some (.lst _)=>Ya (T== .list)|some (.dct _)=>Ya false|some (.cO _)=>Yi|some (.ins _ _)=>Yi
  |none=>Yi):=λ_=>rfl
@[simp] noncomputable def Dw(T:qF)(d:D)(M:Store):R3 D:=match qL T d M with
 |some b=>.ok (.bl b) M|none=>.bad
noncomputable def vG:D->Bool
 | .bl _=>true|_=>false
noncomputable def oN:D->Bool
 | .bl b=>b|_=>false
noncomputable def allB(l:List D):Option Bool:=if l.all vG then Ya (l.all oN)else Yi
noncomputable def Dy(ds:List D)(M:Store):R3 D:=match ds with
 | [.ref n]=>match M[n]? with
  |some (.lst x)=>match allB x with
   |some b=>.ok (.bl b) M|none=>.bad
  |_=>.bad
 |_=>.bad
@[simp] theorem zU:∀n,Dy ([.ref n]) M=(match M[n]? with
  |some (.lst x)=>match allB x with
   |some b=>.ok (.bl b) M|none=>.bad
  |_=>.bad):=λ_=>rfl
noncomputable def tZ(o:D)(ds:List D)(M:Store):R3 D:=match o,ds with
 | .str x,[.str y]=>if x.length<=SZ/\y.length<=SZ then .ok (.bl (y.isPrefixOf x)) M else .bad|_,_=>.bad
@[simp] theorem Iu:∀x y,tZ (.str x) ([.str y]) M=(if x.length<=SZ/\y.length<=SZ then .ok (.bl (y.isPrefixOf x)) M else .bad):=λ_ _=>rfl
section
local instance (priority:=100000) Ahi (p:Prop):Decidable p:=Yp p
noncomputable def nG(o:D)(ds:List D)(M:Store):R3 D:=match o,ds with
 | .ref n,[d]=>match M[n]? with
  |some (.lst x)=>if x.length<SZ then .ok .non (M.set n (.lst (x++[d])))else .bad|_=>.bad
 |_,_=>.bad
@[simp] theorem Iv:∀n d,nG (.ref n) ([d]) M=(match M[n]? with
  |some (.lst x)=>if x.length<SZ then .ok .non (M.set n (.lst (x++[d])))else .bad|_=>.bad):=λ_ _=>rfl
end
noncomputable def fY(a:D)(_:Store):Bool:=match a with
 | .str _=>true|_=>false
@[simp] theorem ZrO{w_:Store}:∀w0,fY (.str w0) w_=true:=λ_=>rfl
noncomputable def nH(a:D)(M:Store):Bool:=match a with
 | .ref n=>match M[n]? with
  |some (.lst _)=>true|_=>false
 |_=>false
@[simp] theorem Iw:∀n,nH (.ref n) M=(match M[n]? with
  |some (.lst _)=>true|_=>false):=λ_=>rfl
@[simp] noncomputable def cL(ty:D->Store->Bool)(m:D->List D->Store->R3 D)(o:E3)(g:bW):E3:=λenv M=>(o env M).bind λa M1=>if ty a M1 then(g env M1).bind λds M2=>m a ds M2 else .bad
@[simp] noncomputable def bB(b:List D->Store->R3 D)(g:bW):E3:=λenv M=>(g env M).bind λds M1=>b ds M1
noncomputable def putD(k:dh)(v:D)(kvs:List (dh×D)):List (dh×D):=if(kvs.any λp=>decide (p.1=k))=true then kvs.map (λp=>if p.1=k then(p.1,v)else p)else kvs++[(k,v)]
noncomputable abbrev vH:=Zt->Store->R3 (List (dh×D))
@[simp] noncomputable def Iz:vH:=λ_ M=>.ok [] M
@[simp] noncomputable def fK(f g:E3)(r:vH):vH:=λenv M=>(f env M).bind λa M1=>(g env M1).bind λb M2=>match lR a with
 |some k=>(r env M2).bind λl M3=>.ok ((k,b)::l) M3|none=>.bad
noncomputable def dictOf(l:List (dh×D)):List (dh×D):=l.foldl (λacc p=>putD p.1 p.2 acc) []
@[simp] noncomputable def Dz(r:vH):E3:=λenv M=>(r env (M++[.dct []])).bind λl M1=>match M1[M.length]? with
 |some (.dct [])=>if l.length<=15 then .ok (.ref M.length) (M1.set M.length (.dct (dictOf l)))else .bad|_=>.bad
@[simp] noncomputable def e3(op:D->D->D->Store->R3 D)(f g h:E3):E3:=λenv M=>(f env M).bind λa M1=>(g env M1).bind λb M2=>(h env M2).bind λc M3=>op a b c M3
noncomputable def IK(v a b:D)(M:Store):R3 D:=match a,b with
 | .ref n,.int i=>match M[n]? with
  |some (.lst xs)=>match jE xs.length i with
   |some j=>.ok .non (M.set n (.lst (xs.set j v)))|none=>.bad
  |_=>.bad
 |_,_=>.bad
@[simp] theorem IV{v:D}:∀n i,IK v (.ref n) (.int i) M=(match M[n]? with
  |some (.lst xs)=>match jE xs.length i with
   |some j=>.ok .non (M.set n (.lst (xs.set j v)))|none=>.bad
  |_=>.bad):=λ_ _=>rfl
noncomputable def DG(ds:List D)(M:Store):R3 D:=match ds with
 |[.int i]=>.ok (.int i) M|[.bl b]=>.ok (.int (if b then 1 else 0)) M|_=>.bad
@[simp] theorem Zua:∀i,DG ([.int i]) M= .ok (.int i) M:=λ_=>rfl
@[simp] theorem ZtX:∀b,DG ([.bl b]) M= .ok (.int (if b then 1 else 0)) M:=λ_=>rfl
noncomputable def bT:S3:=λenv M=>.nx env M
noncomputable def Zw(f g:S3):S3:=λenv M=>match f env M with
 | .nx env' M'=>g env' M'|o=>o
noncomputable def bD(c:E3)(f g:S3):S3:=λenv M=>match c env M with
 | .ok (.bl true) M1=>f env M1|.ok (.bl false) M1=>g env M1|.exc x M1=>.exc x M1|_=>.bad
noncomputable def bG(f:E3):S3:=λenv M=>match f env M with
 | .ok d M1=>.rt d M1|.exc x M1=>.exc x M1|.bad=>.bad
noncomputable def fL(f:E3):S3:=λenv M=>match f env M with
 | .ok _ M1=>.nx env M1|.exc x M1=>.exc x M1|.bad=>.bad
noncomputable def aP(i:Nat)(f:E3):S3:=λenv M=>match f env M with
 | .ok d M1=>.nx (env.set i (Ya d)) M1|.exc x M1=>.exc x M1|.bad=>.bad
noncomputable def oO(o i f:E3):S3:=fL (e3 IK f o i)
noncomputable abbrev G3:=D->Zt->Option Zt
@[simp] noncomputable def cM(i:Nat):G3:=λd env=>Ya (env.set i (Ya d))
noncomputable def bindAll:List Nat->List D->Zt->Option Zt
 |[],[],env=>Ya env|i::is,d::ds,env=>bindAll is ds (env.set i (Ya d))|_,_,_=>Yi
@[simp] theorem ZqU:∀env,bindAll ([]) ([]) (env)=Ya env:=λ_=>rfl
@[simp] theorem Zq0:∀i is d ds env,bindAll (i::is) (d::ds) (env)=bindAll is ds (env.set i (Ya d)):=λ_ _ _ _ _=>rfl
@[simp] noncomputable def qM(is:List Nat):G3:=λd env=>match d with
 | .tup ds=>bindAll is ds env|_=>Yi
structure gO where
 items:List D
 lock:Option Nat
noncomputable abbrev I3:=Zt->Store->R3 gO
section
local instance (priority:=100000) Ahj (p:Prop):Decidable p:=Yp p
@[simp] noncomputable def cN(f:E3):I3:=λenv M=>(f env M).bind λa M1=>match a with
 | .tup ds=>.ok ⟨ds,Yi⟩ M1|.aV ds=>.ok ⟨ds,Yi⟩ M1|.str x=>if x.length<=SZ then .ok ⟨x.map λc=>.str [c],Yi⟩ M1 else .bad|.ref n=>match M1[n]? with
  |some (.lst ds)=>.ok ⟨ds,Ya n⟩ M1|_=>.bad
 |_=>.bad
end
noncomputable def lU(lo:Int)(n:Nat):List D:=(jx n).map λ(k:Nat)=>D.int (lo+(k:Int))
section
local instance (priority:=100000) Ahk (p:Prop):Decidable p:=Yp p
@[simp] noncomputable def zV(f:E3):I3:=λenv M=>(f env M).bind λa M1=>match a with
 | .int j=>if j<=1000000/\ -1000000<=j then .ok ⟨lU 0 j.toNat,Yi⟩ M1 else .bad|_=>.bad
end
noncomputable def locked(it:gO)(M:Store):Bool:=match it.lock with
 |none=>true|some n=>decide (M[n]?=Ya (.lst it.items))
noncomputable def jf(it:gO)(g:G3)(body:S3):List D->Zt->Store->O3
 |[],env,M=>if locked it M then .nx env M else .bad|d::ds,env,M=>if locked it M then match g d env with
  |none=>.bad|some cT=>match body cT M with
   | .nx e M'=>jf it g body ds e M'|.ct e M'=>jf it g body ds e M'|.bk e M'=>.nx e M'|o=>o
  else .bad
theorem DK{g:G3}{body:S3}:jf it g body [] env M=if locked it M then .nx env M else .bad:=rfl
theorem DN{g:G3}{body:S3}{d:D}{ds:List D}:jf it g body (d::ds) env M=if locked it M then match g d env with
  |none=>.bad|some cT=>match body cT M with
   | .nx e M'=>jf it g body ds e M'|.ct e M'=>jf it g body ds e M'|.bk e M'=>.nx e M'|o=>o
  else .bad:=rfl
noncomputable def xR(i:I3)(g:G3)(body:S3):S3:=λenv M=>match i env M with
 | .ok it M1=>jf it g body it.items env M1|.exc x M1=>.exc x M1|.bad=>.bad
noncomputable def vI:List E3->Zt->Store->R3 Bool
 |[],_,M=>.ok true M|c::cs,env,M=>(c env M).bind λa M1=>match a with
  | .bl true=>vI cs env M1|.bl false=>.ok false M1|_=>.bad
theorem O1:vI [] env M= .ok true M:=rfl
theorem O2{c:E3}{cs:List E3}:vI (c::cs) env M=(c env M).bind λa M1=>match a with
  | .bl true=>vI cs env M1|.bl false=>.ok false M1|_=>.bad:=rfl
section
local instance (priority:=100000) AgM (p:Prop):Decidable p:=Yp p
noncomputable def fZ(it:gO)(g:G3)(ifs:List E3)(elt:E3)(n:Nat):List D->Zt->Store->R3 D
 |[],_,M=>if locked it M then .ok (.ref n) M else .bad|d::ds,env,M=>if locked it M then match g d env with
  |none=>.bad|some cT=>(vI ifs cT M).bind λb M1=>if b then(elt cT M1).bind λe M2=>match M2[n]? with
    |some (.lst x)=>if x.length<SZ then fZ it g ifs elt n ds cT (M2.set n (.lst (x++[e])))else .bad|_=>.bad
   else fZ it g ifs elt n ds cT M1
  else .bad
theorem O4{g:G3}{ifs:List E3}{elt:E3}{n:Nat}:fZ it g ifs elt n [] env M=if locked it M then .ok (.ref n) M else .bad:=rfl
theorem IW{g:G3}{ifs:List E3}{elt:E3}{n:Nat}{d:D}{ds:List D}:fZ it g ifs elt n (d::ds) env M=if locked it M then match g d env with
  |none=>.bad|some cT=>(vI ifs cT M).bind λb M1=>if b then(elt cT M1).bind λe M2=>match M2[n]? with
    |some (.lst x)=>if x.length<SZ then fZ it g ifs elt n ds cT (M2.set n (.lst (x++[e])))else .bad|_=>.bad
   else fZ it g ifs elt n ds cT M1
  else .bad:=rfl
end
noncomputable def dO(i:I3)(own:Nat)(g:G3)(ifs:List E3)(elt:E3):E3:=λenv M=>(i env M).bind λit M1=>fZ it g ifs elt M1.length it.items (env++Yt own Yi) (M1++[.lst []])
noncomputable def zW(n:Nat):MO->Bool
 | .lst xs=>dH n xs|.dct kvs=>dH n (kvs.map (·.2))|.cO kvs=>dH n (kvs.map (·.2))|.ins _ fs=>dH n (fs.map (·.2))
noncomputable def jg(M:Store)(d:D)(M':Store):R3 D:=if below M.length d&&(decide (M'.take M.length=M)|| (M'.take M.length).all (zW M.length))then .ok d (M'.take M.length)else .ok d M'
noncomputable def dB(ps n:Nat)(body:S3):F3:=λds M=>if ds.length=ps then match body (ds.map Ya++Yt (n-ps) Yi) M with
  | .nx _ M'=>jg M .non M'|.rt d M'=>jg M d M'|.exc x M'=>.exc x M'|_=>.bad
 else .bad
end
end L3
namespace L3
variable{i n:Nat}
theorem Zme{it:gO}{elt:E3}{R:D->D->Prop}{env0:Zt}:∀(ds:List D) (acc:List D) (env:Zt) (M:Store),(∀d,env.set i (Ya d)=env0.set i (Ya d)) ->
  (∀d∈ds,∀x,∃e,elt (env0.set i (Ya d)) (M.set n (.lst x))= .ok e (M.set n (.lst x))/\R d e)->(∀x,locked it (M.set n (.lst x))=true)->M[n]?=Ya (.lst acc)->acc.length+ds.length<=SZ ->
  ∃es,es.length=ds.length/\(∀(j:Nat) d e,ds[j]?=Ya d->es[j]?=Ya e->R d e)/\fZ it (cM i) [] elt n ds env M= .ok (.ref n) (M.set n (.lst (acc++es))):=by
 intro ds
 induction ds with
 | nil=>
  intro acc env M _ _ hl hM _;have e:M.set n (.lst acc)=M:=by
   apply LC;intro j;by_cases hj:j=n
   .subst hj;rw[jR (Yj.mp hM).1,hM]
   .rw[jw (cP hj)]
  have hl':=hl acc;rw[e]at hl';exact⟨[],rfl,λj d e h=>by simp at h,by simp only[O4,IW,hl',if_true,gW,e]⟩
 | cons d ds ih=>
  intro acc env M he hf hl hM hz;have hn:n<M.length:=(Yj.mp hM).1;have e:M.set n (.lst acc)=M:=by
   apply LC;intro j;by_cases hj:j=n
   .subst hj;rw[jR hn,hM]
   .rw[jw (cP hj)]
  have hl':=hl acc;rw[e]at hl';obtain⟨v,hf',hR⟩:=hf d Y0 acc;rw[e]at hf';have hz':acc.length<SZ:=by simp at hz ⊢;exact lB 1 0xf42405b01f42405ba1c0c01 T1 hz
  obtain⟨es,le,re,h⟩:=ih (acc++[v]) (env0.set i (Ya d)) (M.set n (.lst (acc++[v]))) (λd'=>by rw[zb]) (λd' hd' x=>by rw[zb];exact hf d' (Yx _ hd') x) (λx=>by rw[zb];exact hl x) (by rw[jR hn]) (by simp at hz ⊢;exact lB 1 0xf42405b1a0cc0f42405ba1c0c01 T1 hz);refine⟨v::es,by simp[le],λj d' e' h1 h2=>?_,?_⟩
  .cases j with
   |zero=>simp at h1 h2;subst h1 h2;exact hR|succ j=>exact re j d' e' (by simpa using h1) (by simpa using h2)
  .simp only[IW,hl',if_true,cM,he d,O1,O2,R3.Agt,hf',hM,hz'];rw[h,zb];simp
variable{env env':Zt}{M M':Store}
theorem Zy{f g:S3}(h:f env M= .nx env' M'):Zw f g env M=g env' M':=by rw[Zw,h]
variable{d:D}
theorem I_{f g:S3}(h:f env M= .rt d M'):Zw f g env M= .rt d M':=by rw[Zw,h]
theorem vJ{c:E3}{f g:S3}(h:c env M= .ok (.bl true) M'):bD c f g env M=f env M':=by rw[bD,h]
theorem O5{c:E3}{f g:S3}(h:c env M= .ok (.bl false) M'):bD c f g env M=g env M':=by rw[bD,h]
variable{f:E3}
theorem lV(h:f env M= .ok d M'):bG f env M= .rt d M':=by rw[bG,h]
theorem eF(h:f env M= .ok d M')(he:env.set i (Ya d)=env':=by first|(dsimp only[UT,UV]<;>exact rfl)|exact rfl):aP i f env M= .nx env' M':=by rw[aP,h];simp only[he]
theorem nJ{c:E3}{f:S3}(h:c env M= .ok (.bl false) M'):bD c f bT env M= .nx env M':=by rw[bD,h];rfl
theorem xT(h:f env M= .ok d M'):fL f env M= .nx env M':=by rw[fL,h]
theorem O6{i:I3}{g:G3}{u:S3}{it:gO}(h:i env M= .ok it M'):xR i g u env M=jf it g u it.items env M':=by rw[xR,h]
theorem O7{i:I3}{own:Nat}{g:G3}{ts:List E3}{it:gO}(h:i env M= .ok it M'):dO i own g ts f env M=fZ it g ts f M'.length it.items (env++Yt own Yi) (M'++[.lst []]):=by rw[dO,h];rfl
variable{ds:List D}{body:S3}
theorem Ja{ps:Nat}(h:body env M= .rt d M')(hl:ds.length=ps:=by rfl)(he:ds.map Ya++Yt (n-ps) Yi=env:=by rfl):dB ps n body ds M=jg M d M':=by rw[dB,if_pos hl,he,h]
theorem ZqB{ps:Nat}(h:body env M= .nx env' M')(hl:ds.length=ps:=by rfl)(he:ds.map Ya++Yt (n-ps) Yi=env:=by rfl):dB ps n body ds M=jg M .non M':=by rw[dB,if_pos hl,he,h]
theorem Znj{G:Store}(h:below M.length d=true):jg M d (M++G)= .ok d M:=by simp[jg,h]
theorem Zlw(h:below M.length d=true):jg M d M= .ok d M:=by simp[jg,h]
variable{α:Type}
theorem Zz(M:List α)(x:α)(xs:List α):(M++x::xs)[M.length]?=Ya x:=by simp
theorem xU(M xs:List α)(k:Nat):(M++xs)[M.length+k]?=xs[k]?:=by rw[wX (p_ _ _)];congr 1;exact eZ (lC 1 2199589555233 T1 (p8 (p_ _ _))) (lC 1 2267788938241 T1 (qp _ _))
theorem Jb(M xs:List α)(k:Nat)(o:α):(M++xs).set (M.length+k) o=M++xs.set k o:=by rw[UG _ _ (p_ _ _)];congr 2;exact eZ (lC 1 2199589555233 T1 (p8 (p_ _ _))) (lC 1 2267788938241 T1 (qp _ _))
theorem jF{M:List α}{o:α}(h:M[n]?=Ya o)(xs:List α):(M++xs)[n]?=Ya o:=by rw[Y7 (Yj.mp h).1,h]
theorem jh(xs:List α)(k:Nat):dz xs (k:Int)=xs[k]?:=by
 unfold dz jE;rw[if_pos (xg k)];by_cases h:k<xs.length
 .rw[if_pos (Hf.2 h)];simp
 .rw[if_neg (by exactλz=>iN [_,_] [] 2 6667149772945 T1 z h)];simp at h ⊢;exact h
@[simp] theorem ZrW(xs:List α)(k:Nat):dz xs (k:Int)=xs[k]?:=jh xs k
@[simp] theorem Zs0(xs:List α)(n:Nat):dz xs (no_index (CK n:Int))=xs[(CK n:Nat)]?:=jh xs n
@[simp] theorem Zr6(xs:List α):dz xs (-1)=xs.getLast?:=by
 unfold dz jE;rw[if_neg (by decide),List.getLast?_eq_getElem?];by_cases h:0<xs.length
 .rw[if_pos (by exact iN [_] [] 1 725993655825 T1 h)];simp only[Tv];congr 1;exact eZ (iN [_,_,_] [] 2 0x200a2c10118a9c08a1 T1 (u9 (iN [_] [] 1 595337940497 T1 h)) (qp _ _)) (iN [_,_,_] [] 2 0x1200a2c211808a9c81 T1 (G8 _) (p8 (lA 1 10489361 T1 h)))
 .have:xs=[]:=by simpa using h
  subst this;rfl
theorem ZR(n k:Nat):jE n (k:Int)=if k<n then Ya k else Yi:=by
 unfold jE;rw[if_pos (xg k)];by_cases h:k<n
 .rw[if_pos (Hf.2 h),if_pos h];simp
 .rw[if_neg (by exactλz=>iN [_,_] [] 2 6667149772945 T1 z h),if_neg h]
@[simp] theorem Zsn(n k:Nat):jE n (k:Int)=if k<n then Ya k else Yi:=ZR n k
@[simp] theorem Zt8(m n:Nat):jE m (no_index (CK n:Int))=if(CK n:Nat)<m then Ya (CK n:Nat)else Yi:=ZR m n
theorem getD_last(xs:List α)(x:α):dz (xs++[x]) (-1)=Ya x:=by
 unfold dz jE;rw[if_neg (by decide),if_pos (by simp;exact iN [_] [] 0 10521768 T1)];have:(-1+((xs++[x]).length:Int)).toNat=xs.length:=by simp;exact eZ (iN [_,_] [] 1 4514701222086817 T1 (u9 (iN [_] [] 0 43097169128 T1))) (iN [_,_] [] 1 4505291991981185 T1 (G8 _))
 simp only[Tv,this];simp
inductive Row where
 |put (a:Nat) (n:Int)|add (a b c:Nat)|sub (a b c:Nat)|more (a b c:Nat)|get (a b:Nat)|set (a b:Nat)|jump (k:Nat)|when (a k:Nat)|tell (a:Nat)|halt
 deriving Inhabited
noncomputable def Row.ok(many:Nat):Row->Prop
 | .put a _=>a<8|.add a b c=>a<8/\b<8/\c<8|.sub a b c=>a<8/\b<8/\c<8|.more a b c=>a<8/\b<8/\c<8
 | .get a b=>a<8/\b<8|.set a b=>a<8/\b<8|.jump k=>k<many|.when a k=>a<8/\k<many
 | .tell a=>a<8|.halt=>True
noncomputable def Row.tells(bs:List Int):Row->Option Int
 | .tell a=>bs[a]?|_=>Yi
noncomputable def Row.pR:Row->Bool
 | .halt=>true|_=>false
variable{a:Nat}
@[simp] theorem Zr3{n:Int}{bs:List Int}:(Row.put a n).tells bs=Yi:=rfl
@[simp] theorem ZrS{n:Int}:(Row.put a n).pR=false:=rfl
variable{b c:Nat}
@[simp] theorem ZrZ{bs:List Int}:(Row.add a b c).tells bs=Yi:=rfl
@[simp] theorem ZrB:(Row.add a b c).pR=false:=rfl
@[simp] theorem Zr7{bs:List Int}:(Row.sub a b c).tells bs=Yi:=rfl
@[simp] theorem ZrL:(Row.sub a b c).pR=false:=rfl
@[simp] theorem Zp2{bs:List Int}:(Row.more a b c).tells bs=Yi:=rfl
@[simp] theorem Zpq:(Row.more a b c).pR=false:=rfl
@[simp] theorem Zr5{bs:List Int}:(Row.get a b).tells bs=Yi:=rfl
@[simp] theorem Zqe:(Row.get a b).pR=false:=rfl
@[simp] theorem ZrX{bs:List Int}:(Row.set a b).tells bs=Yi:=rfl
@[simp] theorem Zri:(Row.set a b).pR=false:=rfl
@[simp] theorem Zrh{k:Nat}{bs:List Int}:(Row.jump k).tells bs=Yi:=rfl
@[simp] theorem ZpH{k:Nat}:(Row.jump k).pR=false:=rfl
@[simp] theorem Zrd{k:Nat}{bs:List Int}:(Row.when a k).tells bs=Yi:=rfl
@[simp] theorem Zpw{k:Nat}:(Row.when a k).pR=false:=rfl
@[simp] theorem ZrJ{bs:List Int}:(Row.tell a).tells bs=bs[a]?:=rfl
@[simp] theorem ZpL:(Row.tell a).pR=false:=rfl
@[simp] theorem Zqg{bs:List Int}:(Row.halt).tells bs=Yi:=rfl
@[simp] theorem Zpz :(Row.halt).pR=true:=rfl
theorem ZnH(n:Nat)(i:Int):bV n (.int i)=true:=by cases n<;>rfl
theorem Zl1(n:Nat)(i:List Nat):bV n (.str i)=true:=by cases n<;>rfl
mutual
theorem ZlM:∀(n:Nat) (d:D),bV n d=true->e_ d d=true
 |_,.non,_=>rfl|_,.bl b,_=>beq_self_eq_true b|_,.int b,_=>beq_self_eq_true b|_,.str b,_=>beq_self_eq_true b
 |0,.tup _,h=>ft h|n+1,.tup ds,h=>O8 n ds (jT.mp h)|n,.aV _,h=>by cases n<;>exact ft h|n,.ref _,h=>by cases n<;>exact ft h
theorem O8:∀(n:Nat) (ds:List D),(∀d∈ds,bV n d=true)->fH ds ds=true
 |_,[],_=>rfl|n,d::ds,h=>by simp only[Zqj,Oo,gq];exact⟨ZlM n d (h d Y0),O8 n ds λx hx=>h x (Yx _ hx)⟩
end
theorem Zlo(h:ds.all (bV DEEP)=true):fH ds ds=true:=O8 DEEP ds (by simpa using h)
def Rt(o:O3)(d:D):Prop:=∃M',o= .rt d M'
theorem Rt.set{g:S3}{r:D}(h:f env M= .ok d M')(k:Rt (g env' M') r)(he:env.set i (Ya d)=env':=by first|(dsimp only[UT,UV]<;>exact rfl)|exact rfl):Rt (Zw (aP i f) g env M) r:=by rw[Rt,Zy (eF h he)];exact k
theorem Rt.skip{c:E3}{u g:S3}{r:D}(h:c env M= .ok (.bl false) M')(k:Rt (g env M') r):Rt (Zw (bD c u bT) g env M) r:=by rw[Rt,Zy (nJ h)];exact k
theorem Rt.loop{i:I3}{t:G3}{u g:S3}{M M' M1:Store}{it:gO}{r:D}(h:i env M= .ok it M1)(hl:jf it t u it.items env M1= .nx env' M')(k:Rt (g env' M') r):Rt (Zw (xR i t u) g env M) r:=by rw[Rt,Zy ((O6 h).trans hl)];exact k
theorem Rt.step{f g:S3}{r:D}(h:f env M= .nx env' M')(k:Rt (g env' M') r):Rt (Zw f g env M) r:=by rw[Rt,Zy h];exact k
theorem Rt.ret(h:f env M= .ok d M'):Rt (bG f env M) d:=⟨M',lV h⟩
theorem Rt.law{ps:Nat}{b:Bool}(h:Rt (body env []) (.bl b))(hl:ds.length=ps:=by rfl)(he:ds.map Ya++Yt (n-ps) Yi=env:=by rfl):∃M',dB ps n body ds []= .ok (.bl b) M':=by obtain⟨M',h⟩:=h;exact⟨_,(Ja h hl he).trans (by rw[jg,if_pos (by simp[below])])⟩
theorem Rt.pure{ps:Nat}{G:Store}(h:body env M= .rt d (M++G))(hd:below M.length d=true)(hl:ds.length=ps:=by rfl)(he:ds.map Ya++Yt (n-ps) Yi=env:=by rfl):dB ps n body ds M= .ok d M:=(Ja h hl he).trans (Znj hd)
theorem ZS{β:Type}(f:α->β)(xs:List α)(lo hi:Option Int):cutD (xs.map f) lo hi=(cutD xs lo hi).map f:=by simp[cutD]
theorem Zoq{lo:Int}{j:Nat}(h:(lU lo n)[j]?=Ya d):d= .int (lo+j)/\j<n:=by
 unfold lU at h;rw[gn]at h;cases q:(jx n)[j]? with
 |none=>rw[q]at h;cases h|some k=>rw[q]at h;obtain⟨hi,e⟩:=Yj.mp q;rw[UW]at e;subst e;simp at h hi;exact⟨h.symm,hi⟩
theorem ZV{j:Nat}(h:(lU 0 n)[j]?=Ya d):d= .int (j:Int)/\j<n:=by obtain⟨e,l⟩:=Zoq h;exact⟨by rw[e,Cv],l⟩
theorem Zn2(lo:Int)(n:Nat):(lU lo n).length=n:=by simp[lU]
variable{xs:List D}
theorem Zoh{m:Nat}(h1:M[n]?=Ya (.lst xs))(h2:M[m]?=Ya (.lst xs))(hp:xs.all (bV DEEP)=true):cQ (.ref n) (.ref m) M= .ok (.bl true) M:=by simp only[cQ,xK,xM,xN,xO,xP,h1,h2,hp,zf,if_true,Zlo hp]
variable{g:E3}
theorem Zm{op:D->D->Store->R3 D}{M M1 M2 M3:Store}{a b:D}(h1:f env M= .ok a M1)(h2:g env M1= .ok b M2)(h3:op a b M2= .ok d M3):e2 op f g env M= .ok d M3:=by simp only[e2,h1,h2,h3,R3.bind]
theorem qN{F:F3}{M M1 M2:Store}{a:D}(h1:f env M= .ok a M1)(h2:F [a] M1= .ok d M2):aN F (Za f Zd) env M= .ok d M2:=by simp only[aN,Za,Zd,h1,h2,R3.bind]
theorem xV{F:F3}{M M1 M2 M3:Store}{a b:D}(h1:f env M= .ok a M1)(h2:g env M1= .ok b M2)(h3:F [a,b] M2= .ok d M3):aN F (Za f (Za g Zd)) env M= .ok d M3:=by simp only[aN,Za,Zd,h1,h2,h3,R3.bind]
@[simp] theorem Zup(a b:qF):(a==b)=decide (a=b):=by cases a<;>cases b<;>rfl
theorem gP{b:List D->Store->R3 D}{M M1 M2:Store}{a:D}(h1:f env M= .ok a M1)(h2:b [a] M1= .ok d M2):bB b (Za f Zd) env M= .ok d M2:=by simp only[bB,Za,Zd,h1,h2,R3.bind]
theorem ji{op:D->Store->R3 D}{M M1 M2:Store}{a:D}(h1:f env M= .ok a M1)(h2:op a M1= .ok d M2):e1 op f env M= .ok d M2:=by simp only[e1,h1,h2,R3.bind]
theorem Zx{g:bW}{M M1 M2:Store}(h1:f env M= .ok d M1)(h2:g env M1= .ok ds M2):Za f g env M= .ok (d::ds) M2:=by simp only[Za,h1,h2,R3.bind]
theorem zX{g:bW}(h:g env M= .ok ds M')(hl:decide (ds.length<=100)=true):iH g env M= .ok (.tup ds) M':=by have:=of_decide_eq_true hl;simp only[iH,h,R3.bind];rw[if_pos (Ys this (by decide))]
theorem zY(h:M[n]?=Ya (.lst xs)):cH [.ref n] M= .ok (.int (xs.length:Int)) M:=by simp only[Io,Ip,Ir,vC,h]
theorem O9(h:M[n]?=Ya (.lst xs)):qK [.ref n] M= .ok (.tup xs) M:=by simp only[ZP,ZQ,zR,h]
theorem jG{i:Int}(h:M[n]?=Ya (.lst xs))(hd:dz xs i=Ya d):Zv (.ref n) (.int i) M= .ok d M:=by simp only[Ox,Oz,OD,OJ,h,hd]
theorem ZW{i:Int}(hd:dz xs i=Ya d):Zv (.tup xs) (.int i) M= .ok d M:=by simp only[Ox,Oz,OD,OJ,hd]
theorem ZuQ{a b:Int}(h:a=b):cQ (.int a) (.int b) M= .ok (.bl true) M:=by simp only[cQ,xK,xM,xN,xO,xP,decide_eq_true h]
theorem ZuY{a b:Int}(h:¬a=b):cQ (.int a) (.int b) M= .ok (.bl false) M:=by simp only[cQ,xK,xM,xN,xO,xP,decide_eq_false h]
theorem gZ{i j:Int}(h:0<j):bO (.int i) (.int j) M= .ok (.int (i % j)) M:=by simp only[ZC,if_pos h]
theorem zZ{M M1:Store}(h1:f env M= .ok (.bl false) M1):gA f g env M=g env M1:=by simp only[gA,h1,R3.bind]
theorem ZsC{M M1:Store}(h1:f env M= .ok (.bl true) M1):gA f g env M= .ok (.bl true) M1:=by simp only[gA,h1,R3.bind]
theorem lW{M M1:Store}(h1:f env M= .ok (.bl true) M1):cu f g env M=g env M1:=by simp only[cu,h1,R3.bind]
theorem DP{M M1:Store}(h1:f env M= .ok (.bl false) M1):cu f g env M= .ok (.bl false) M1:=by simp only[cu,h1,R3.bind]
theorem Zs5{c:E3}{M M1:Store}(h1:c env M= .ok (.bl true) M1):vy c f g env M=f env M1:=by simp only[vy,h1,R3.bind]
theorem Zs6{c:E3}{M M1:Store}(h1:c env M= .ok (.bl false) M1):vy c f g env M=g env M1:=by simp only[vy,h1,R3.bind]
theorem ZX{enc:α->D}{h:α->D}{own:Nat}{it:I3}{elt:E3}{M M1:Store}{lock:Option Nat}{as:List α}(hi:it env M= .ok ⟨as.map enc,lock⟩ M1)(yL:∀n,lock=Ya n->M1[n]?=Ya (.lst (as.map enc)))(he:∀a∈as,∀M,elt ((env++Yt own Yi).set i (Ya (enc a))) M= .ok (h a) M)(hz:as.length<=100000):dO it own (cM i) [] elt env M= .ok (.ref M1.length) (M1++[.lst (as.map h)]):=by
 rw [O7 hi];obtain⟨es,le,re,hh⟩:=Zme (it:=⟨as.map enc,lock⟩) (i:=i) (n:=M1.length) (elt:=elt) (R:=λd e=>∀a∈as,d=enc a->e=h a) (env0:=env++Yt own Yi) (as.map enc) [] (env++Yt own Yi) (M1++[.lst []]) (λ_=>rfl)
  (λd hd x=>by obtain⟨a,ha,rfl⟩:=jb.mp hd;refine⟨h a,he a ha _,λb hb e=>?_⟩;have h1:=he a ha [];have h2:=he b hb [];rw[e,h2]at h1;injection h1 with h1 _;exact h1.symm)
  (λx=>by
   cases lock with
   |none=>rfl|some n=>have hn:=yL n rfl;have hlt:=(Yj.mp hn).1;simp only[locked,decide_eq_true_eq];rw[jw (by exactλz=>lB 2 25787699233 T1 z hlt),Y7 hlt,hn]) (by simp) (by simp;exact lA 1 0xf42405b00186a05b001 T1 hz)
 rw [show(⟨as.map enc,lock⟩:gO).items=as.map enc from rfl,hh];have:es=as.map h:=by
  apply LC;intro j;rw[gn];cases ha:as[j]? with
  |none=>
   have:as.length<=j:=by simpa using ha
   simp[le];exact this
  | some a=>
   have hj:j<es.length:=by have:=(Yj.mp ha).1;simpa[le]using this
   have h2:=re j (enc a) es[j] (by simp[ha]) (by simp[hj]) a (uX ha) rfl;rw[lG hj,h2];rfl
 rw[this];simp
def keysOk(t:List (Int×Int)):Prop:=(t.map (·.1)).Nodup
noncomputable def ZZ:List (Int×Int)->Int->Int
 |[],_=>0|(k,v)::r,n=>if k=n then v else ZZ r n
def O_(cs:List (Int×Int)):Prop:=cs.Pairwise λa b=>a.1<b.1
theorem O_.keys{cs:List (Int×Int)}(h:O_ cs):keysOk cs:=by unfold keysOk O_ at *;rw[u5,List.pairwise_map];exact h.imp λh=>(λz=>iN [] [_,_] 2 26047746225 T1 z h)
noncomputable def Zof(cs:List (Int×Int))(n v:Int):List (Int×Int):=cs.filter (λc=>decide (c.1<n))++(if v≠0 then[(n,v)]else[])++cs.filter (λc=>decide (n<c.1))
noncomputable def Row.Ahl(bs:List Int)(cs:List (Int×Int)):Row->List Int
 | .put a n=>bs.set a n|.add a b c=>bs.set a (bs.getD b 0+bs.getD c 0)|.sub a b c=>bs.set a (bs.getD b 0-bs.getD c 0)|.more a b c=>bs.set a (if bs.getD c 0<bs.getD b 0 then 1 else 0)
 | .get a b=>bs.set a (ZZ cs (bs.getD b 0))|_=>bs
noncomputable def Row.cells(bs:List Int)(cs:List (Int×Int)):Row->List (Int×Int)
 | .set a b=>Zof cs (bs.getD a 0) (bs.getD b 0)|_=>cs
noncomputable def Zi(i:Int):List Nat:=(PySem.Str.ofString (ql i)).cps.toList
noncomputable section
local instance (priority:=100000) Ahw (p:Prop):Decidable p:=Yp p
noncomputable def xW(ds:List D)(M:Store):R3 D:=match ds with
 |[.int i]=>if i.natAbs.log2<1920 then .ok (.str (Zi i)) M else .bad|[.str x]=>.ok (.str x) M|_=>.bad
@[simp] theorem Z0:∀i,xW ([.int i]) M=(if i.natAbs.log2<1920 then .ok (.str (Zi i)) M else .bad):=λ_=>rfl
@[simp] theorem Z1:∀x,xW ([.str x]) M= .ok (.str x) M:=λ_=>rfl
noncomputable def jj:List D->Option (List (List Nat))
 |[]=>Ya []|.str x::ds=>(jj ds).map (x:: ·)|_=>Yi
noncomputable def glue(sep:List Nat):List (List Nat)->List Nat
 |[]=>[]|[x]=>x|x::y::xs=>x++sep++glue sep (y::xs)
noncomputable def jZ(sep:List Nat)(ts:List (List Nat)):Nat:=(ts.map λt=>t.length+sep.length).sum
noncomputable def vK(o:D)(ds:List D)(M:Store):R3 D:=match o,ds with
 | .str sep,[.ref n]=>match M[n]? with
  |some (.lst x)=>match jj x with
   |some ts=>if jZ sep ts<=SZ then .ok (.str (glue sep ts)) M else .bad|none=>.bad
  |_=>.bad
 |_,_=>.bad
@[simp] theorem Z2:∀sep n,vK (.str sep) ([.ref n]) M=(match M[n]? with
  |some (.lst x)=>match jj x with
   |some ts=>if jZ sep ts<=SZ then .ok (.str (glue sep ts)) M else .bad|none=>.bad
  |_=>.bad):=λ_ _=>rfl
noncomputable def nO(x y:List Nat):List (List Nat):=(Wy ⟨x.toArray⟩ ⟨y.toArray⟩).map λt=>t.cps.toList
noncomputable def vL(o:D)(ds:List D)(M:Store):R3 D:=match o,ds with
 | .str x,[.str y]=>if 0<y.length/\x.length+2<=SZ then alloc (.lst ((nO x y).map D.str)) M else .bad|_,_=>.bad
@[simp] theorem Pa:∀x y,vL (.str x) ([.str y]) M=(if 0<y.length/\x.length+2<=SZ then alloc (.lst ((nO x y).map D.str)) M else .bad):=λ_ _=>rfl
noncomputable def vM(ds:List D)(M:Store):R3 D:=match ds with
 |[.str x]=>match FZ ⟨x.toArray⟩with
  |some n=>if x.length<=640 then .ok (.int n) M else .bad|none=>.bad
 |ds=>DG ds M
@[simp] theorem Z3:∀x,vM ([.str x]) M=(match FZ ⟨x.toArray⟩with
  |some n=>if x.length<=640 then .ok (.int n) M else .bad|none=>.bad):=λ_=>rfl
@[simp] theorem Z4:∀i,vM [.int i] M= .ok (.int i) M:=λ_=>rfl
@[simp] theorem Zs2:∀b,vM [.bl b] M=DG [.bl b] M:=λ_=>rfl
end
noncomputable section
structure Jc where
 items:List D
 lk:List (Nat×List D)
noncomputable def gQ(lk:List (Nat×List D))(M:Store):Bool:=lk.all λq=>decide (M[q.1]?=Ya (.lst q.2))
noncomputable def iI(lk:List (Nat×List D))(g:G3)(body:S3):List D->Zt->Store->O3
 |[],env,M=>if gQ lk M then .nx env M else .bad|d::ds,env,M=>if gQ lk M then match g d env with
  |none=>.bad|some cT=>match body cT M with
   | .nx e M'=>iI lk g body ds e M'|.ct e M'=>iI lk g body ds e M'|.bk e M'=>.nx e M'|o=>o
  else .bad
theorem vN{lk:List (Nat×List D)}{g:G3}:iI lk g body [] env M=if gQ lk M then .nx env M else .bad:=rfl
theorem vO{lk:List (Nat×List D)}{g:G3}:iI lk g body (d::ds) env M=if gQ lk M then match g d env with
  |none=>.bad|some cT=>match body cT M with
   | .nx e M'=>iI lk g body ds e M'|.ct e M'=>iI lk g body ds e M'|.bk e M'=>.nx e M'|o=>o
  else .bad:=rfl
noncomputable abbrev qO:=Zt->Store->R3 Jc
noncomputable def DQ(i:qO)(g:G3)(body:S3):S3:=λenv M=>match i env M with
 | .ok it M1=>iI it.lk g body it.items env M1|.exc x M1=>.exc x M1|.bad=>.bad
noncomputable def oR:Nat->List D->List D
 |_,[]=>[]|k,d::ds=>.tup [.int k,d]::oR (k+1) ds
theorem Pb:∀(k:Nat) (ds:List D) (i:Nat),(oR k ds)[i]?=(ds[i]?).map λd=>.tup [.int ((k+i:Nat):Int),d]
 |_,[],_=>by simp[oR]|k,d::ds,0=>by simp[oR]|k,d::ds,i+1=>by simp only[oR,sW,Pb (k+1) ds i];rw[show k+1+i=k+(i+1)by exact eZ (lB 0 0xa1c0c1a0cc0 T1) (lB 0 1790139547840 T1)]
theorem Pg:∀(k:Nat) (ds:List D),(oR k ds).length=ds.length
 |_,[]=>rfl|k,d::ds=>by simp[oR,Pg (k+1) ds]
theorem Ph{lk:List (Nat×List D)}{g:G3}{body:S3}{P:Nat->Zt->Store->Prop}:∀(ds:List D) (j:Nat) (env:Zt) (M:Store),P j env M->(∀j env M,P j env M->gQ lk M=true) ->
  (∀(i:Nat) d env M,ds[i]?=Ya d->P (j+i) env M->∃cT,g d env=Ya cT/\((∃e' M',body cT M= .nx e' M'/\P (j+i+1) e' M')\/∃e' M',body cT M= .ct e' M'/\P (j+i+1) e' M')) ->
  ∃e' M',iI lk g body ds env M= .nx e' M'/\P (j+ds.length) e' M'
 |[],j,env,M,p,hl,_=>⟨env,M,by simp[vN,vO,hl _ _ _ p],by simpa using p⟩|d::ds,j,env,M,p,hl,hs=>by
  obtain⟨cT,hg,hb⟩:=hs 0 d env M (by simp) (by simpa using p);have go:∀e' M',P (j+1) e' M'->∃e'' M'',iI lk g body ds e' M'= .nx e'' M''/\P (j+(d::ds).length) e'' M'':=λe' M' p'=>by
   obtain⟨e'',M'',h,p''⟩:=Ph ds (j+1) e' M' p' hl λi d env M hd p=>by have:=hs (i+1) d env M (by simpa using hd) (by rw[show j+(i+1)=j+1+i by exact eZ (lB 0 1790139547840 T1) (lB 0 0xa1c0c1a0cc0 T1)];exact p);rw[show j+(i+1)+1=j+1+i+1 by exact eZ (lB 0 0xa1a0cccaa1c0cc0 T1) (lB 0 0xaa1c0cca1a0ccc0 T1)]at this;exact this
   exact⟨e'',M'',h,by rw[show j+(d::ds).length=j+1+ds.length by simp;exact eZ (lB 0 1790139547840 T1) (lB 0 0xa1c0c1a0cc0 T1)];exact p''⟩
  simp only[Nat.add_zero]at hb;rcases hb with⟨e',M',hb,p'⟩|⟨e',M',hb,p'⟩
  .obtain⟨e'',M'',h,p''⟩:=go e' M' p';exact⟨e'',M'',by simp[vN,vO,hl _ _ _ p,hg,hb,h],p''⟩
  .obtain⟨e'',M'',h,p''⟩:=go e' M' p';exact⟨e'',M'',by simp[vN,vO,hl _ _ _ p,hg,hb,h],p''⟩
end
noncomputable section
noncomputable def g_:List D->List D->List D
 |a::x,b::y=>.tup [a,b]::g_ x y|_,_=>[]
@[simp] noncomputable def Zvz(f g:E3):qO:=λenv M=>(f env M).bind λa M1=>(g env M1).bind λb M2=>match a,b with
 | .ref n,.ref m=>match M2[n]?,M2[m]? with
  |some (.lst x),Ya (.lst y)=>.ok ⟨g_ x y,[(n,x),(m,y)]⟩ M2|_,_=>.bad
 |_,_=>.bad
theorem Pj:∀(x y:List D) (i:Nat),(g_ x y)[i]?=(match x[i]?,y[i]? with|some a,Ya b=>Ya (D.tup [a,b])|_,_=>Yi)
 |[],y,i=>by cases y<;>simp[g_]|a::x,[],i=>by simp[g_]|a::x,b::y,0=>by simp[g_]|a::x,b::y,i+1=>by simp only[g_,sW,Pj x y i]
theorem Pk:∀(x y:List D),(g_ x y).length=fG x.length y.length
 |[],y=>by cases y<;>simp[g_]|a::x,[]=>by simp[g_]|a::x,b::y=>by simp only[g_,iC,Pk x y];omega
end
noncomputable section
end
noncomputable def Pn(f:List Nat)(d:D):List (List Nat×D)->List (List Nat×D)
 |[]=>[(f,d)]|(g,x)::r=>if g=f then(g,d)::r else(g,x)::Pn f d r
noncomputable section
@[simp] noncomputable def lX(f:E3):E3:=λenv M=>match f env M with
 | .exc _ _=>.bad|r=>r
@[simp] noncomputable def t6(f:bW):bW:=λenv M=>match f env M with
 | .exc _ _=>.bad|r=>r
noncomputable def fM(f:S3):S3:=λenv M=>match f env M with
 | .exc _ _=>.bad|o=>o
noncomputable def t7(c:List Nat)(g:bW):S3:=λenv M=>match g env M with
 | .ok [_] M1=>.exc ⟨c,.ref M1.length⟩ (M1++[.ins (0::c) []])|_=>.bad
noncomputable def xX(cs:List (List Nat))(j:Nat)(b h:S3):S3:=λenv M=>match b env M with
 | .exc x M'=>if cs.contains x.cls then(match h (env.set j (Ya x.arg)) M' with
  | .nx e' M2=>.nx (e'.set j Yi) M2|_=>.bad)else .bad
 |o=>o
noncomputable def dD(yes no:List (List Nat))(d:D)(M:Store):R3 D:=match d with
 | .non=>.ok (.bl false) M|.ref n=>match M[n]? with
  |some (.ins (0::c) _)=>if yes.contains c then .ok (.bl true) M else if no.contains c then .ok (.bl false) M else .bad|_=>.bad
 |_=>.bad
@[simp] theorem ZrR{yes no:List (List Nat)}:dD yes no .non M= .ok (.bl false) M:=rfl
@[simp] theorem Pq{yes no:List (List Nat)}:∀n,dD yes no (.ref n) M=(match M[n]? with
  |some (.ins (0::c) _)=>if yes.contains c then .ok (.bl true) M else if no.contains c then .ok (.bl false) M else .bad|_=>.bad):=λ_=>rfl
end
noncomputable section
noncomputable def z6(i:I3)(g:G3)(body:S3):S3:=λenv M=>match i env M with
 | .ok it M1=>jf it g body it.items env M1|_=>.bad
noncomputable def qP(i:qO)(g:G3)(body:S3):S3:=λenv M=>match i env M with
 | .ok it M1=>iI it.lk g body it.items env M1|_=>.bad
end
noncomputable section
noncomputable abbrev oU:=List (List Nat×List (List Nat))
noncomputable def tabAt(x:List Nat):oU->Option (List (List Nat))
 |[]=>Yi|(k,v)::r=>if x=k then Ya v else tabAt x r
noncomputable def z7(t:oU)(d:D)(M:Store):R3 D:=match d with
 | .str x=>match tabAt x t with
  |some ds=>.ok (.tup (ds.map D.str)) M|none=>.ok .non M
 |_=>.bad
noncomputable def t8(t:oU)(d:D)(M:Store):R3 D:=match d with
 | .str x=>match tabAt x t with
  |some ds=>.ok (.tup (ds.map D.str)) M|none=>.bad
 |_=>.bad
noncomputable def Jd(f:E3):qO:=λenv M=>(f env M).bind λa M1=>match a with
 | .ref n=>match M1[n]? with
  |some (.lst ds)=>.ok ⟨oR 1 ds,[(n,ds)]⟩ M1|_=>.bad
 |_=>.bad
noncomputable def vP(M:Store):D->Option (List D×List (Nat×List D))
 | .tup x=>Ya (x,[])|.ref n=>match M[n]? with
  |some (.lst x)=>Ya (x,[(n,x)])|_=>Yi
 |_=>Yi
noncomputable def t_(f g:E3):qO:=λenv M=>(f env M).bind λa M1=>(g env M1).bind λb M2=>match vP M2 a,vP M2 b with
 |some (x,l),Ya (y,k)=>.ok ⟨g_ x y,l++k⟩ M2|_,_=>.bad
end
noncomputable section
end
noncomputable section
end
noncomputable section
local instance (priority:=100000) Ahx (p:Prop):Decidable p:=Yp p
end
open PySem PySem.Spec PyProof.Rows L2
noncomputable abbrev St:=L2.St
theorem nP:SZ<=Y6:=by rw[iy];decide
def nQ(K:Yb)(H:Hp)(a:Yl)(xs:List V):Prop:=
 (∃o,H a=Ya (.bA o (.lst xs)))\/
  ∃(o:aq) (its:Array Yd) (n:Nat),K.lookup a=Ya o/\o.cls= .type "list" /\o.dict=Yi/\o.data= .seq its n/\its.size<=Y6/\Vals xs its.toList
variable{H:Hp}{K:Yb}
theorem nQ.sq{a:Yl}{xs:List V}(h:nQ K H a xs):bK K H a xs:=by
 rcases h with⟨o,h⟩|h
 .exact .inl (.inr ⟨o,h⟩)
 .exact .inr h
mutual
noncomputable def Rep(K:Yb)(H:Hp)(ι:List Yl):D->V->Prop
 | .non,v=>v= .non|.bl b,v=>v= .bl b|.int i,v=>v= .int i|.str x,v=>v= .str ⟨x.toArray⟩
 | .tup ds,v=>∃a vs,v= .ref a/\bY K H a vs/\Zo K H ι ds vs|.aV ds,v=>∃a vs,v= .ref a/\nQ K H a vs/\Zo K H ι ds vs|.ref n,v=>∃a,ι[n]?=Ya a/\v= .ref a
noncomputable def Zo(K:Yb)(H:Hp)(ι:List Yl):List D->List V->Prop
 |[],vs=>vs=[]|d::ds,vs=>∃v ws,vs=v::ws/\Rep K H ι d v/\Zo K H ι ds ws
end
structure Ext(K:Yb)(H:Hp)(ι:List Yl)(H':Hp)(ι':List Yl):Prop where
 tup:∀a xs,bY K H a xs->bY K H' a xs
 aV:∀a xs,nQ K H a xs->nQ K H' a xs
 pre:∀(n:Nat) (a:Yl),ι[n]?=Ya a->ι'[n]?=Ya a
 bA:∀a o u,H a=Ya (.bA o u)->H' a=Ya (.bA o u)
variable{vs:List V}{v:V}
section
variable {K:Yb} {H H' H1 H2:Hp} {ι ι' ι1 ι2:List Yl}
theorem Ext.refl:Ext K H ι H ι:=⟨λ_ _ h=>h,λ_ _ h=>h,λ_ _ h=>h,λ_ _ _ h=>h⟩
theorem Ext.trans(a:Ext K H ι H1 ι1)(b:Ext K H1 ι1 H2 ι2):Ext K H ι H2 ι2:=⟨λx xs h=>b.tup x xs (a.tup x xs h),λx xs h=>b.aV x xs (a.aV x xs h),λn x h=>b.pre n x (a.pre n x h),λx o u h=>b.bA x o u (a.bA x o u h)⟩
mutual
theorem Rep.mono(e:Ext K H ι H' ι'):∀{d:D} {v:V},Rep K H ι d v->Rep K H' ι' d v
 | .non,_,h=>h|.bl _,_,h=>h|.int _,_,h=>h|.str _,_,h=>h
 | .tup ds,_,h=>by obtain⟨a,vs,rfl,s,r⟩:=h;exact⟨a,vs,rfl,e.tup _ _ s,Zo.mono e (ds:=ds) r⟩|.aV ds,_,h=>by obtain⟨a,vs,rfl,s,r⟩:=h;exact⟨a,vs,rfl,e.aV _ _ s,Zo.mono e (ds:=ds) r⟩|.ref n,_,h=>by obtain⟨a,s,rfl⟩:=h;exact⟨a,e.pre _ _ s,rfl⟩
theorem Zo.mono(e:Ext K H ι H' ι'):∀{ds:List D} {vs:List V},Zo K H ι ds vs->Zo K H' ι' ds vs
 |[],_,h=>h|d::ds,_,h=>by obtain⟨v,ws,rfl,r,q⟩:=h;exact⟨v,ws,rfl,Rep.mono e (d:=d) r,Zo.mono e (ds:=ds) q⟩
end
mutual
theorem Rep.keep(ht:∀a xs,bY K H a xs->bY K H' a xs)(hs:∀a xs,nQ K H a xs->nQ K H' a xs):∀{d:D} {v:V},Rep K H ι d v->Rep K H' ι d v
 | .non,_,h=>h|.bl _,_,h=>h|.int _,_,h=>h|.str _,_,h=>h
 | .tup ds,_,h=>by obtain⟨a,vs,rfl,s,r⟩:=h;exact⟨a,vs,rfl,ht _ _ s,Zo.keep ht hs (ds:=ds) r⟩|.aV ds,_,h=>by obtain⟨a,vs,rfl,s,r⟩:=h;exact⟨a,vs,rfl,hs _ _ s,Zo.keep ht hs (ds:=ds) r⟩|.ref n,_,h=>h
theorem Zo.keep(ht:∀a xs,bY K H a xs->bY K H' a xs)(hs:∀a xs,nQ K H a xs->nQ K H' a xs):∀{ds:List D} {vs:List V},Zo K H ι ds vs->Zo K H' ι ds vs
 |[],_,h=>h|d::ds,_,h=>by obtain⟨v,ws,rfl,r,q⟩:=h;exact⟨v,ws,rfl,Rep.keep ht hs (d:=d) r,Zo.keep ht hs (ds:=ds) q⟩
end
theorem Zo.nil:Zo K H ι [] []:=rfl
theorem Zo.cons{d:D}{ds:List D}{v:V}{vs:List V}(h:Rep K H ι d v)(t:Zo K H ι ds vs):Zo K H ι (d::ds) (v::vs):=⟨v,vs,rfl,h,t⟩
theorem Zo.nil_inv(h:Zo K H ι [] vs):vs=[]:=h
theorem Zo.cons_inv(h:Zo K H ι (d::ds) vs):∃v ws,vs=v::ws/\Rep K H ι d v/\Zo K H ι ds ws:=h
theorem Zo.length:∀{ds:List D} {vs:List V},Zo K H ι ds vs->vs.length=ds.length
 |[],_,h=>by rw[h.nil_inv];rfl|d::ds,_,h=>by obtain⟨v,ws,rfl,_,q⟩:=h.cons_inv;exact congrArg Nat.succ q.length
theorem Zo.append:∀{ds es:List D} {vs ws:List V},Zo K H ι ds vs->Zo K H ι es ws->Zo K H ι (ds++es) (vs++ws)
 |[],_,_,_,h,q=>by rw[h.nil_inv];exact q|d::ds,_,_,_,h,q=>by obtain⟨v,us,rfl,r,t⟩:=h.cons_inv;exact Zo.cons r (t.append q)
theorem Zo.drop:∀{ds:List D} {vs:List V} (n:Nat),Zo K H ι ds vs->Zo K H ι (ds.drop n) (vs.drop n)
 |_,_,0,h=>h|[],_,n+1,h=>by rw[h.nil_inv];exact Zo.nil|d::ds,_,n+1,h=>by obtain⟨v,us,rfl,r,t⟩:=h.cons_inv;exact t.drop n
theorem Zo.take:∀{ds:List D} {vs:List V} (n:Nat),Zo K H ι ds vs->Zo K H ι (ds.take n) (vs.take n)
 |_,_,0,h=>Zo.nil|[],_,n+1,h=>by rw[h.nil_inv];exact Zo.nil|d::ds,_,n+1,h=>by obtain⟨v,us,rfl,r,t⟩:=h.cons_inv;exact Zo.cons r (t.take n)
theorem Zo.get:∀{ds:List D} {vs:List V} {i:Nat} {d:D},Zo K H ι ds vs->ds[i]?=Ya d->∃v,vs[i]?=Ya v/\Rep K H ι d v
 |[],_,_,_,_,e=>by simp at e|d::ds,_,0,_,h,e=>by obtain⟨v,us,rfl,r,t⟩:=h.cons_inv;simp at e;subst e;exact⟨v,rfl,r⟩
 |d::ds,_,i+1,_,h,e=>by obtain⟨v,us,rfl,r,t⟩:=h.cons_inv;obtain⟨w,q,z⟩:=t.get (i:=i) (by simpa using e);exact⟨w,by simpa using q,z⟩
theorem Zo.set:∀{ds:List D} {vs:List V} {d:D} {v:V} (i:Nat),Zo K H ι ds vs->Rep K H ι d v->Zo K H ι (ds.set i d) (vs.set i v)
 |[],_,_,_,_,h,_=>by rw[h.nil_inv];exact Zo.nil|d::ds,_,_,_,0,h,q=>by obtain⟨v,us,rfl,r,t⟩:=h.cons_inv;exact Zo.cons q t
 |d::ds,_,_,_,i+1,h,q=>by obtain⟨v,us,rfl,r,t⟩:=h.cons_inv;exact Zo.cons r (t.set i q)
theorem Zo.ints:∀(ns:List Int),Zo K H ι (ns.map D.int) (ns.map V.int)
 |[]=>Zo.nil|n::ns=>Zo.cons rfl (Zo.ints ns)
theorem Rep.iT(h:Rep K H ι .non v):v= .non:=h
theorem Rep.fO{b:Bool}(h:Rep K H ι (.bl b) v):v= .bl b:=h
theorem Rep.int_inv{i:Int}(h:Rep K H ι (.int i) v):v= .int i:=h
theorem Rep.str_inv{x:List Nat}(h:Rep K H ι (.str x) v):v= .str ⟨x.toArray⟩:=h
theorem Rep.gF(h:Rep K H ι (.tup ds) v):∃a vs,v= .ref a/\bY K H a vs/\Zo K H ι ds vs:=h
theorem Rep.rY(h:Rep K H ι (.aV ds) v):∃a vs,v= .ref a/\nQ K H a vs/\Zo K H ι ds vs:=h
theorem Rep.dZ(h:Rep K H ι (.ref n) v):∃a,ι[n]?=Ya a/\v= .ref a:=h
theorem Rep.non:Rep K H ι .non .non:=rfl
theorem Rep.bl{b:Bool}:Rep K H ι (.bl b) (.bl b):=rfl
theorem Rep.int{i:Int}:Rep K H ι (.int i) (.int i):=rfl
theorem Rep.str{x:List Nat}:Rep K H ι (.str x) (.str ⟨x.toArray⟩):=rfl
theorem Rep.tup{a:Yl}{vs:List V}{ds:List D}(s:bY K H a vs)(r:Zo K H ι ds vs):Rep K H ι (.tup ds) (.ref a):=⟨a,vs,rfl,s,r⟩
theorem Rep.ref{a:Yl}(s:ι[n]?=Ya a):Rep K H ι (.ref n) (.ref a):=⟨a,s,rfl⟩
end
def vQ(e C:Yl)(dd:Option Yl)(h:ao):Prop:=∃o vs,h.get? e=Ya o/\o.cls= .ref C/\o.data= .fields vs/\o.dict=dd
noncomputable abbrev jH(e C:Yl)(dd:Option Yl):HO:=.ext (vQ e C dd)
noncomputable def dk:dh->Key
 | .inl i=>.inl i|.inr x=>.inr ⟨x.toArray⟩
def bL(K:Yb)(H:Hp)(ι:List Yl)(kvs:List (dh×D))(ws:List (Key×V)):Prop:=ws.map (·.1)=kvs.map (λp=>dk p.1)/\Zo K H ι (kvs.map (·.2)) (ws.map (·.2))
def gj(K:Yb)(H:Hp)(ι:List Yl)(fs:List (List Nat×D))(gs:List (aj×V)):Prop:=gs.map (·.1)=fs.map (λp=>(⟨p.1.toArray⟩:aj))/\Zo K H ι (fs.map (·.2)) (gs.map (·.2))
def ClsAt(K:Yb)(c:List Nat)(C:Yl):Prop:=PySem.W.nsIn K Y2 ⟨c.toArray⟩=Ya (Ya (.ref C))
def Je(K:Yb)(H:Hp)(ι:List Yl)(fs:List (List Nat×D))(dd:Option Yl):Prop:=fs=[]\/∃dx o gs,dd=Ya dx/\H dx=Ya (.bA o (.xd gs))/\gj K H ι fs gs
variable{ι:List Yl}
theorem Je.up{H':Hp}{ι':List Yl}{fs:List (List Nat×D)}{dd:Option Yl}(hf:∀b o gs,H b=Ya (.bA o (.xd gs))->H' b=Ya (.bA o (.xd gs)))(hr:∀ds vs,Zo K H ι ds vs->Zo K H' ι' ds vs)(h:Je K H ι fs dd):Je K H' ι' fs dd:=h.imp id λz=>let⟨dx,o,gs,e,q,r1,r2⟩:=z;⟨dx,o,gs,e,hf _ _ _ q,r1,hr _ _ r2⟩
noncomputable def jJ(K:Yb)(H:Hp)(ι:List Yl):MO->Yl->Prop
 | .lst xs,a=>∃vs,H a=Ya (.lst vs)/\Zo K H ι xs vs|.dct kvs,a=>∃ws,H a=Ya (.dK ws)/\bL K H ι kvs ws|.cO kvs,a=>∃ws,(∃o,H a=Ya (.bA o (.dK ws)))/\bL K H ι kvs ws|.ins c fs,a=>(∃C dx gs,H a=Ya (.ins C dx gs)/\(ClsAt K c C/\c.head?≠Ya 0)/\gj K H ι fs gs)\/∃C dd,H a=Ya (jH a C dd)/\c.head?=Ya 0/\ClsAt K c.tail C/\Je K H ι fs dd
structure Zu(K:Yb)(H:Hp)(ι:List Yl)(M:Store):Prop where
 len:ι.length=M.length
 nd:ι.Nodup
 obj:∀(n:Nat) o a,M[n]?=Ya o->ι[n]?=Ya a->jJ K H ι o a
def Loose(H:Hp)(p:Yl):Prop:=H p=Yi\/(∃vs,H p=Ya (.lst vs))\/(∃ws,H p=Ya (.dK ws))\/∃C dx gs,H p=Ya (.ins C dx gs)
variable{m:MO}
section
variable {K:Yb} {H H':Hp} {ι ι':List Yl} {M:Store} {p:Yl} {o:HO}
theorem Loose.ne{a:Yl}{u:HO}(l:Loose H p)(h:H a=Ya u)(h1:∀vs,u≠ .lst vs)(h2:∀ws,u≠ .dK ws)(h3:∀C dx gs,u≠ .ins C dx gs:=by exactλ_ _ _ z=>nomatch z):a≠p:=by
 rintro rfl;rcases l with l|⟨vs,l⟩|⟨ws,l⟩|⟨C,dx,gs,l⟩
 .rw[h]at l;cases l
 .rw[h]at l;exact h1 vs (Y3 l)
 .rw[h]at l;exact h2 ws (Y3 l)
 .rw[h]at l;exact h3 C dx gs (Y3 l)
theorem Loose.tup(l:Loose H p){a:Yl}{xs:List V}(h:bY K H a xs):bY K (upd H p o) a xs:=by
 rcases h with(h|⟨ob,h⟩)|h
 .exact .inl (.inl (by rw[Zk (l.ne h (λ_ z=>nomatch z) (λ_ z=>nomatch z))];exact h))
 .exact .inl (.inr ⟨ob,by rw[Zk (l.ne h (λ_ z=>nomatch z) (λ_ z=>nomatch z))];exact h⟩)
 .exact .inr h
theorem Loose.aV(l:Loose H p){a:Yl}{xs:List V}(h:nQ K H a xs):nQ K (upd H p o) a xs:=by
 rcases h with⟨ob,h⟩|h
 .exact .inl ⟨ob,by rw[Zk (l.ne h (λ_ z=>nomatch z) (λ_ z=>nomatch z))];exact h⟩
 .exact .inr h
theorem Loose.bA(l:Loose H p){a:Yl}{ob:aq}{u:HO}(h:H a=Ya (.bA ob u)):upd H p o a=Ya (.bA ob u):=by rw[Zk (l.ne h (λ_ z=>nomatch z) (λ_ z=>nomatch z))];exact h
theorem Loose.ext(l:Loose H p):Ext K H ι (upd H p o) ι:=⟨λ_ _ h=>l.tup h,λ_ _ h=>l.aV h,λ_ _ h=>h,λ_ _ _ h=>l.bA h⟩
theorem Loose.wI(l:Loose H p):Ext K H ι (upd H p o) (ι++[p]):=⟨λ_ _ h=>l.tup h,λ_ _ h=>l.aV h,λn a h=>by rw[Y7 (Yj.mp h).1];exact h,λ_ _ _ h=>l.bA h⟩
theorem jJ.mono{a:Yl}(e:Ext K H ι H' ι')(h:jJ K H ι m a)(k:H' a=H a):jJ K H' ι' m a:=by
 cases m with
 |lst xs=>obtain⟨vs,q,r⟩:=h;exact⟨vs,k.trans q,r.mono e⟩|dct kvs=>obtain⟨ws,q,r1,r2⟩:=h;exact⟨ws,k.trans q,r1,r2.mono e⟩|cO kvs=>obtain⟨ws,⟨o,q⟩,r1,r2⟩:=h;exact⟨ws,⟨o,k.trans q⟩,r1,r2.mono e⟩|ins c fs=>
  rcases h with⟨C,dx,gs,q,c,r1,r2⟩|⟨C,dd,q,z,c,r⟩
  .exact .inl ⟨C,dx,gs,k.trans q,c,r1,r2.mono e⟩
  .exact .inr ⟨C,dd,k.trans q,z,c,r.up (λb o g q=>e.bA b o _ q) λ_ _ r=>r.mono e⟩
theorem jJ.ne{a:Yl}(h:jJ K H ι m a):H a≠Yi:=by
 cases m with
 |lst xs=>obtain⟨vs,q,r⟩:=h;rw[q];simp|dct kvs=>obtain⟨ws,q,r⟩:=h;rw[q];simp|cO kvs=>obtain⟨ws,⟨o,q⟩,r⟩:=h;rw[q];simp|ins c fs=>rcases h with⟨C,dx,gs,q,r⟩|⟨C,dd,q,r⟩<;>(rw[q];simp)
theorem Zu.at(S:Zu K H ι M)(h:M[n]?=Ya m):∃a,ι[n]?=Ya a/\jJ K H ι m a:=by
 have hn:n<ι.length:=by rw[S.len];exact(Yj.mp h).1
 exact⟨ι[n],by simp[hn],S.obj n m _ h (by simp[hn])⟩
theorem Zu.there(S:Zu K H ι M){a:Yl}(h:ι[n]?=Ya a):∃m,M[n]?=Ya m/\jJ K H ι m a:=by
 have hn:n<M.length:=by rw[←S.len];exact(Yj.mp h).1
 exact⟨M[n],by simp[hn],S.obj n _ _ (by simp[hn]) h⟩
theorem Zu.fresh(S:Zu K H ι M)(hp:H p=Yi):p∉ι:=λh=>by obtain⟨n,hn⟩:=Ci h;obtain⟨m,_,q⟩:=S.there hn;exact q.ne hp
theorem Zu.other(S:Zu K H ι M)(l:Loose H p)(hp:p∉ι):Zu K (upd H p o) ι M:=⟨S.len,S.nd,λn m a h1 h2=>(S.obj n m a h1 h2).mono l.ext (by rw[Zk];rintro rfl;exact hp (uX h2))⟩
theorem Zu.new(S:Zu K H ι M)(hp:H p=Yi)(h:jJ K (upd H p o) (ι++[p]) m p):Zu K (upd H p o) (ι++[p]) (M++[m]):=by
 have hf:=S.fresh hp;refine⟨by simp[S.len],?_,λn m' a h1 h2=>?_⟩
 .exact List.nodup_append.mpr ⟨S.nd,by simp,λx hx y hy=>by
   have e:y=p:=by simpa using hy
   subst e;rintro rfl;exact hf hx⟩
 .by_cases hn:n<ι.length
  .rw[Y7 hn]at h2;rw[Y7 (by rw[←S.len];exact hn)]at h1;refine(S.obj n m' a h1 h2).mono (Loose.wI (.inl hp)) ?_;rw[Zk];rintro rfl;exact hf (uX h2)
  .rw[wX (jc hn)]at h2;rw[wX (by rw[←S.len];exact jc hn)]at h1;have hlt:n-ι.length<1:=by
    have:=(Yj.mp h2).1;simpa using this
   have e0:n-ι.length=0:=eZ (lA 1 234922001 T1 hlt) (jy _);rw[e0]at h2;rw[←S.len,e0]at h1;simp at h1 h2;subst h1 h2;exact h
theorem Zu.put(S:Zu K H ι M)(l0:Loose H p)(hn:ι[n]?=Ya p)(h:jJ K (upd H p o) ι m p):Zu K (upd H p o) ι (M.set n m):=by
 obtain⟨m0,hm0,q0⟩:=S.there hn;refine⟨by simp[S.len],S.nd,λk m' a h1 h2=>?_⟩;by_cases hk:k=n
 .subst hk;rw[hn]at h2;cases h2;have hlt:k<M.length:=(Yj.mp hm0).1;rw[jR hlt]at h1;cases h1;exact h
 .rw[jw (cP hk)]at h1;refine(S.obj k m' a h1 h2).mono (Loose.ext l0) ?_;rw[Zk];rintro rfl;have hlt1:=(Yj.mp h2);have hlt2:=(Yj.mp hn);exact hk ((U8 S.nd).mp (hlt1.2.trans hlt2.2.symm))
theorem Zu.lst(S:Zu K H ι M)(hp:H p=Yi){xs:List D}{vs:List V}(r:Zo K H ι xs vs):Ext K H ι (upd H p (.lst vs)) (ι++[p])/\Zu K (upd H p (.lst vs)) (ι++[p]) (M++[.lst xs])/\Rep K (upd H p (.lst vs)) (ι++[p]) (.ref M.length) (.ref p):=by have e:Ext K H ι (upd H p (.lst vs)) (ι++[p]):=Loose.wI (.inl hp);refine⟨e,S.new hp ⟨vs,cU,r.mono e⟩,Rep.ref ?_⟩;rw[←S.len];simp
theorem Zu.wJ(S:Zu K H ι M)(hp:H p=Yi)(r:Zo K H ι xs vs):Ext K H ι (upd H p (.tup vs)) ι/\Zu K (upd H p (.tup vs)) ι M/\Rep K (upd H p (.tup vs)) ι (.tup xs) (.ref p):=by have e:Ext K H ι (upd H p (.tup vs)) ι:=Loose.ext (.inl hp);exact⟨e,S.other (.inl hp) (S.fresh hp),Rep.tup (bY.of cU) (r.mono e)⟩
theorem Zu.KR(S:Zu K H ι M)(l0:Loose H p)(hn:ι[n]?=Ya p)(r:Zo K H ι xs vs):Ext K H ι (upd H p (.lst vs)) ι/\Zu K (upd H p (.lst vs)) ι (M.set n (.lst xs)):=by have e:Ext K H ι (upd H p (.lst vs)) ι:=Loose.ext l0;exact⟨e,S.put l0 hn ⟨vs,cU,r.mono e⟩⟩
end
def aY(K:Yb)(H:Hp)(ι:List Yl)(env:Zt)(σ:St):Prop:=env.length=σ.length/\∀(i:Nat) d,env[i]?=Ya (Ya d)->∃v,σ[i]?=Ya (Ya v)/\Rep K H ι d v
variable{σ:St}
theorem aY.mono{H':Hp}{ι':List Yl}(r:aY K H ι env σ)(e:Ext K H ι H' ι'):aY K H' ι' env σ:=⟨r.1,λi d h=>let⟨v,q,z⟩:=r.2 i d h;⟨v,q,z.mono e⟩⟩
theorem aY.set(r:aY K H ι env σ)(i:Nat)(h:Rep K H ι d v):aY K H ι (env.set i (Ya d)) (σ.set i (Ya v)):=by
 refine⟨by simp[r.1],λj e hj=>?_⟩;by_cases hij:j=i
 .subst hij;have hlt:j<env.length:=by
   have:=(Yj.mp hj).1;simpa using this
  rw[jR hlt]at hj;cases hj;exact⟨v,by rw[jR (by rw[←r.1];exact hlt)],h⟩
 .rw[jw (cP hij)]at hj;obtain⟨w,q,z⟩:=r.2 j e hj;exact⟨w,by rw[jw (cP hij)];exact q,z⟩
def Zr(K:Yb)(H:Hp)(ι:List Yl)(Q:VK)(r:R3 D):Prop:=match r with
 | .ok d M'=>∀v H' ι',Ext K H ι H' ι'->Zu K H' ι' M'->Rep K H' ι' d v->Q v H'|_=>False
inductive Z5(K:Yb)(f:E3)(σ:St)(H:Hp)(Q:VK):Prop where
 |mk (ι:List Yl) (M:Store) (env:Zt) (S:Zu K H ι M) (E:aY K H ι env σ) (h:Zr K H ι Q (f env M)):Z5 K f σ H Q
def oV(K:Yb)(f:E3):TE:=λσ H Q=>Z5 K f σ H Q
def oW(K:Yb)(H:Hp)(ι:List Yl)(Q:Bool->Hp->Prop)(r:R3 D):Prop:=match r with
 | .ok (.bl b) M'=>∀H' ι',Ext K H ι H' ι'->Zu K H' ι' M'->Q b H'|_=>False
inductive Z6(K:Yb)(f:E3)(σ:St)(H:Hp)(Q:Bool->Hp->Prop):Prop where
 |mk (ι:List Yl) (M:Store) (env:Zt) (S:Zu K H ι M) (E:aY K H ι env σ) (h:oW K H ι Q (f env M)):Z6 K f σ H Q
def Z7(K:Yb)(f:E3):TT:=λσ H Q=>Z6 K f σ H Q
def z8(K:Yb)(H:Hp)(ι:List Yl)(Q:List V->Hp->Prop)(r:R3 (List D)):Prop:=match r with
 | .ok ds M'=>∀vs H' ι',Ext K H ι H' ι'->Zu K H' ι' M'->Zo K H' ι' ds vs->Q vs H'|_=>False
inductive Z8(K:Yb)(f:bW)(σ:St)(H:Hp)(Q:List V->Hp->Prop):Prop where
 |mk (ι:List Yl) (M:Store) (env:Zt) (S:Zu K H ι M) (E:aY K H ι env σ) (h:z8 K H ι Q (f env M)):Z8 K f σ H Q
def Pr(K:Yb)(f:bW):TA:=λσ H Q=>Z8 K f σ H Q
def DR(K:Yb)(H:Hp)(ι:List Yl)(Q:Option Int->Hp->Prop)(r:R3 (Option Int)):Prop:=match r with
 | .ok o M'=>∀H' ι',Ext K H ι H' ι'->Zu K H' ι' M'->Q o H'|_=>False
def tOo(K:Yb)(f:tY):TO:=λσ H Q=>∃ι M env,Zu K H ι M/\aY K H ι env σ/\DR K H ι Q (f env M)
def j4(K:Yb)(H:Hp)(ι:List Yl)(E:Ends)(r:O3):Prop:=match r with
 | .nx env' M'=>∀σ' H' ι',Ext K H ι H' ι'->Zu K H' ι' M'->aY K H' ι' env' σ'->E.nx σ' H'|.bk env' M'=>∀σ' H' ι',Ext K H ι H' ι'->Zu K H' ι' M'->aY K H' ι' env' σ'->E.bk σ' H'|.ct env' M'=>∀σ' H' ι',Ext K H ι H' ι'->Zu K H' ι' M'->aY K H' ι' env' σ'->E.ct σ' H'|.rt d M'=>∀v H' ι',Ext K H ι H' ι'->Zu K H' ι' M'->Rep K H' ι' d v->E.rt v H'
 |_=>False
inductive Z9(K:Yb)(f:S3)(D:Ends)(σ:St)(H:Hp):Prop where
 |mk (ι:List Yl) (M:Store) (env:Zt) (S:Zu K H ι M) (E:aY K H ι env σ) (h:j4 K H ι D (f env M)):Z9 K f D σ H
def Z_(K:Yb)(f:S3):TS:=λE σ H=>Z9 K f E σ H
def C3(X:Cx)(e:Expr)(f:E3):Prop:=PE X e (oV X.K f)
def CT(X:Cx)(e:Expr)(f:E3):Prop:=PT X e (Z7 X.K f)
def CA(X:Cx)(es:List Expr)(f:bW):Prop:=PA X es (Pr X.K f)
def CO(X:Cx)(e:Option Expr)(f:tY):Prop:=PO X e (tOo X.K f)
def CS(X:Cx)(st:Ydr)(f:S3):Prop:=PS X st (Z_ X.K f)
def nU(X:Cx)(st:List Ydr)(f:S3):Prop:=gJ X st (Z_ X.K f)
variable{X:Cx}{e:Expr}
theorem _root_.L2.PE.imp{t t':TE}(h:PE X e t)(i:∀σ H Q,t' σ H Q->t σ H Q):PE X e t':=λpins s σ H Q I q=>h pins s σ H Q I (i σ H Q q)
theorem _root_.L2.PT.imp{t t':TT}(h:PT X e t)(i:∀σ H Q,t' σ H Q->t σ H Q):PT X e t':=λpins s σ H Q I q=>h pins s σ H Q I (i σ H Q q)
theorem _root_.L2.PA.imp{e:List Expr}{t t':TA}(h:PA X e t)(i:∀σ H Q,t' σ H Q->t σ H Q):PA X e t':=λpos pins s σ H Q I q=>h pos pins s σ H Q I (i σ H Q q)
theorem _root_.L2.PO.imp{e:Option Expr}{t t':TO}(h:PO X e t)(i:∀σ H Q,t' σ H Q->t σ H Q):PO X e t':=λpins s σ H Q I q=>h pins s σ H Q I (i σ H Q q)
theorem _root_.L2.PS.imp{e:Ydr}{t t':TS}(h:PS X e t)(i:∀D σ H,t' D σ H->t D σ H):PS X e t':=λpins s σ H D I q=>h pins s σ H D I (i D σ H q)
theorem _root_.L2.gJ.imp{e:List Ydr}{t t':TS}(h:gJ X e t)(i:∀D σ H,t' D σ H->t D σ H):gJ X e t':=λpins s σ H D I q=>h pins s σ H D I (i D σ H q)
theorem _root_.L2.aJ.imp{f:Yd->Yd->lF Yd}{r r':R2}(h:aJ X f r)(i:∀x y H Q,r' x y H Q->r x y H Q):aJ X f r':=λpins s σ H x y v u Q I rx ry q=>h pins s σ H x y v u Q I rx ry (i x y H Q q)
theorem _root_.L2.tU.imp{f:Yd->lF Yd}{r r':V->Hp->VK->Prop}(h:tU X f r)(i:∀x H Q,r' x H Q->r x H Q):tU X f r':=λpins s σ H x v Q I rx q=>h pins s σ H x v Q I rx (i x H Q q)
theorem _root_.L2.cj.imp{f:Yd}{r r':List V->Hp->VK->Prop}(h:cj X f r)(i:∀x H Q,r' x H Q->r x H Q):cj X f r':=λpins s σ H xs us Q I rx q=>h pins s σ H xs us Q I rx (i xs H Q q)
theorem _root_.L2.jB.imp{r r':R2}(h:jB X r)(i:∀x y H Q,r' x y H Q->r x y H Q):jB X r':=λvalue slice pins s σ H x y v u Q I rx ry q hs=>h value slice pins s σ H x y v u Q I rx ry (i x y H Q q) hs
theorem _root_.L2.gY.imp{r r':V->Option Int->Option Int->Hp->VK->Prop}(h:gY X r)(i:∀x lo hi H Q,r' x lo hi H Q->r x lo hi H Q):gY X r':=λpins s σ H x v vl vu lo hi sl Q I rx hs pl pu q=>h pins s σ H x v vl vu lo hi sl Q I rx hs pl pu (i x lo hi H Q q)
variable{Q:VK}{r:R3 D}
section
variable {K:Yb} {H H1:Hp} {ι ι1:List Yl}
theorem Zr.up(e:Ext K H ι H1 ι1)(h:Zr K H ι Q r):Zr K H1 ι1 Q r:=by
 cases r with
 |ok d M=>exactλv H' ι' e' S r=>h v H' ι' (e.trans e') S r|exc x M=>exact h|bad=>exact h
theorem oW.up{Q:Bool->Hp->Prop}(e:Ext K H ι H1 ι1)(h:oW K H ι Q r):oW K H1 ι1 Q r:=by
 cases r with
 |ok d M=>cases d<;>first|exact h|exactλH' ι' e' S=>h H' ι' (e.trans e') S
 |exc x M=>exact h|bad=>exact h
theorem j4.up{Q:Ends}{r:O3}(e:Ext K H ι H1 ι1)(h:j4 K H ι Q r):j4 K H1 ι1 Q r:=by
 cases r with
 |nx d M=>exactλv H' ι' e' S r=>h v H' ι' (e.trans e') S r|bk d M=>exactλv H' ι' e' S r=>h v H' ι' (e.trans e') S r|ct d M=>exactλv H' ι' e' S r=>h v H' ι' (e.trans e') S r|rt d M=>exactλv H' ι' e' S r=>h v H' ι' (e.trans e') S r
 |exc x M=>exact h|bad=>exact h
theorem Zr.ok(h:Zr K H ι Q (.ok d M))(S:Zu K H ι M)(r:Rep K H ι d v):Q v H:=h v H ι Ext.refl S r
theorem Zr.bind{r:R3 α}{k:α->Store->R3 D}(h:Zr K H ι Q (r.bind k)):∃a M,r= .ok a M/\Zr K H ι Q (k a M):=by
 cases r with
 |ok a M=>exact⟨a,M,rfl,h⟩|exc x M=>exact h.elim|bad=>exact h.elim
theorem z8.bind{Q:List V->Hp->Prop}{r:R3 α}{k:α->Store->R3 (List D)}(h:z8 K H ι Q (r.bind k)):∃a M,r= .ok a M/\z8 K H ι Q (k a M):=by
 cases r with
 |ok a M=>exact⟨a,M,rfl,h⟩|exc x M=>exact h.elim|bad=>exact h.elim
theorem DR.bind{Q:Option Int->Hp->Prop}{r:R3 α}{k:α->Store->R3 (Option Int)}(h:DR K H ι Q (r.bind k)):∃a M,r= .ok a M/\DR K H ι Q (k a M):=by
 cases r with
 |ok a M=>exact⟨a,M,rfl,h⟩|exc x M=>exact h.elim|bad=>exact h.elim
theorem oW.bind{Q:Bool->Hp->Prop}{r:R3 α}{k:α->Store->R3 D}(h:oW K H ι Q (r.bind k)):∃a M,r= .ok a M/\oW K H ι Q (k a M):=by
 cases r with
 |ok a M=>exact⟨a,M,rfl,h⟩|exc x M=>exact h.elim|bad=>exact h.elim
end
inductive R2I(K:Yb)(op:D->D->Store->R3 D)(x y:V)(H:Hp)(Q:VK):Prop where
 |mk (ι:List Yl) (M:Store) (a b:D) (S:Zu K H ι M) (ra:Rep K H ι a x) (rb:Rep K H ι b y) (h:Zr K H ι Q (op a b M)):R2I K op x y H Q
def r2(K:Yb)(op:D->D->Store->R3 D):R2:=λx y H Q=>R2I K op x y H Q
noncomputable def r1(K:Yb)(op:D->Store->R3 D):V->Hp->VK->Prop:=λx H Q=>∃ι M a,Zu K H ι M/\Rep K H ι a x/\Zr K H ι Q (op a M)
inductive RBI(K:Yb)(b:List D->Store->R3 D)(xs:List V)(H:Hp)(Q:VK):Prop where
 |mk (ι:List Yl) (M:Store) (ds:List D) (S:Zu K H ι M) (r:Zo K H ι ds xs) (h:Zr K H ι Q (b ds M)):RBI K b xs H Q
noncomputable def rB(K:Yb)(b:List D->Store->R3 D):List V->Hp->VK->Prop:=λxs H Q=>RBI K b xs H Q
noncomputable def rM(K:Yb)(m:D->List D->Store->R3 D):V->List V->Hp->VK->Prop:=λx xs H Q=>∃ι M a ds,Zu K H ι M/\Rep K H ι a x/\Zo K H ι ds xs/\Zr K H ι Q (m a ds M)
noncomputable def rS(K:Yb):V->Option Int->Option Int->Hp->VK->Prop:=λx lo hi H Q=>∃ι M a,Zu K H ι M/\Rep K H ι a x/\Zr K H ι Q (zQ a lo hi M)
theorem Jf{op:D->D->Store->R3 D}(σ:St)(H:Hp)(Q:VK)(h:oV K (e2 op f g) σ H Q):Di (r2 K op) (oV K f) (oV K g) σ H Q:=by obtain⟨ι,M,env,S,E,h⟩:=h;obtain⟨a,M1,e1,h⟩:=Zr.bind h;obtain⟨b,M2,e2,h⟩:=Zr.bind h;refine⟨ι,M,env,S,E,?_⟩;rw[e1];intro v H1 ι1 x1 S1 r1;refine⟨ι1,M1,env,S1,E.mono x1,?_⟩;rw[e2];intro u H2 ι2 x2 S2 r2;exact⟨ι2,M2,a,b,S2,r1.mono x2,r2,(h.up x1).up x2⟩
theorem Zro{op:D->Store->R3 D}(σ:St)(H:Hp)(Q:VK)(h:oV K (e1 op f) σ H Q):Xm (r1 K op) (oV K f) σ H Q:=by obtain⟨ι,M,env,S,E,h⟩:=h;obtain⟨a,M1,e1,h⟩:=Zr.bind h;refine⟨ι,M,env,S,E,?_⟩;rw[e1];intro v H1 ι1 x1 S1 r1;exact⟨ι1,M1,a,S1,r1,h.up x1⟩
variable{u:Yd}
section
variable {X:Cx} {a b c e o:Expr} {es:List Expr} {pos p:aF} {f g h:E3} {gl:bW}
theorem Ze(i:Nat){x:aj}(hN:X.N[i]?=Ya x:=by rfl)(hv:Hz X.env.scope x:=by first|exact Or.inl rfl|exact Or.inr (Or.inl rfl)|exact Or.inr (Or.inr rfl))(hd:(x==("__debug__":aj))=false:=by decide)(hcd:(x==("__classdict__":aj))=false:=by decide):C3 X (.Name x pos) (Zc i):=(tO hN hv hd hcd).imp λσ H Q ak=>by
 obtain⟨ι,M,env,S,E,h⟩:=ak;unfold Zc at h;cases q:env[i]? with
 |none=>rw[q]at h;exact h.elim|some od=>
  cases od with
  |none=>rw[q]at h;exact h.elim|some d=>rw[q]at h;obtain⟨v,e1,r⟩:=E.2 i d q;exact⟨v,e1,Zr.ok h S r⟩
theorem Zj{i j}:C3 X (.Constant (.int i) j pos) (eC (.int i)):=Xb.imp λσ H Q ⟨ι,M,env,S,E,h⟩=>Zr.ok h S Rep.int
theorem z9{i j}:C3 X (.Constant (.bool i) j pos) (eC (.bl i)):=Zs8.imp λσ H Q ⟨ι,M,env,S,E,h⟩=>Zr.ok h S Rep.bl
theorem vR{j}:C3 X (.Constant .none j pos) (eC .non):=Zrb.imp λσ H Q ⟨ι,M,env,S,E,h⟩=>Zr.ok h S Rep.non
theorem aR{x:aj}{cs:List Nat}{j}(hx:x=⟨cs.toArray⟩:=by decide +kernel):C3 X (.Constant (.str x) j pos) (eC (.str cs)):=zE.imp λσ H Q ak=>by obtain⟨ι,M,env,S,E,h⟩:=ak;subst hx;exact Zr.ok h S Rep.str
theorem Pu{x:aj}(hm:X.mg x=Ya u)(r:RelV v u)(hr:∀H ι,Rep X.K H ι d v)(hg:Gl X x:=by rfl)(hd:(x==("__debug__":aj))=false:=by decide):C3 X (.Name x pos) (eC d):=(HD hg hm r hd).imp λσ H Q ⟨ι,M,env,S,E,h⟩=>Zr.ok h S (hr H ι)
theorem bJ{op:Operator}{q:D->D->Store->R3 D}(ho:aJ X (iB op) (r2 X.K q))(ha:C3 X a f)(hb:C3 X b g):C3 X (.BinOp a op b pos) (e2 q f g):=(Zr9 ho ha hb).imp Jf
theorem nW{op:UnaryOp}{q:D->Store->R3 D}(ho:tU X (Gk op) (r1 X.K q))(ha:C3 X a f):C3 X (.UnaryOp op a pos) (e1 q f):=(Ztk ho ha).imp Zro
theorem vU{op:CmpOp}{q:D->D->Store->R3 D}(ho:aJ X (fB op) (r2 X.K q))(ha:C3 X a f)(hb:C3 X b g)(hm:Ga op b=false:=by rfl):C3 X (.Compare a [op] [b] pos) (e2 q f g):=(Zo2 ho ha hb hm).imp Jf
theorem ZgY{Q:Bool->Hp->Prop}(h:oW K H ι Q r):Zr K H ι (λx H'=>∃k,x= .bl k/\Q k H') r:=by
 cases r with
 |ok d M=>
  cases d with
  |bl b=>exactλv H' ι' e S r=>⟨b,r.fO,h H' ι' e S⟩|_=>exact h.elim
 |exc x M=>exact h.elim|bad=>exact h.elim
theorem lY(h:C3 X e f)(he:∀whole,isTrue e X.env whole=(do let v ←whole;yV e.pos;sO [v] (truthy v)):=by intro _;rfl):CT X e f:=(Zrr h he).imp λσ H Q ⟨ι,M,env,S,E,h⟩=>⟨ι,M,env,S,E,ZgY h⟩
theorem gR{op:CmpOp}{q:D->D->Store->R3 D}(ho:aJ X (fB op) (r2 X.K q))(ha:C3 X a f)(hb:C3 X b g)(hm:Ga op b=false:=by rfl):CT X (.Compare a [op] [b] pos) (e2 q f g):=(Zos ho ha hb hm).imp λσ H Q ⟨ι,M,env,S,E,h⟩=>Jf σ H _ ⟨ι,M,env,S,E,ZgY h⟩
end
variable{st:Ydr}{q:List D->Store->R3 D}
section
variable {X:Cx} {a b c e o:Expr} {es rest:List Expr} {pos p:aF} {f g h:E3} {gl:bW}
theorem DW{op}(h:C3 X a f):C3 X (.BoolOp op [a] pos) f:=Zqz h
theorem vV(ha:C3 X a f)(hb:C3 X (.BoolOp .And (b::rest) pos) g):C3 X (.BoolOp .And (a::b::rest) pos) (cu f g):=(ZpX ha hb).imp λσ H Q ak=>by
 obtain⟨ι,M,env,S,E,h⟩:=ak;obtain⟨d,M1,e1,h⟩:=Zr.bind h;refine⟨ι,M,env,S,E,?_⟩;rw[e1];intro v H1 ι1 x1 S1 r1;cases d with
 |bl k=>
  refine⟨k,r1.fO,?_⟩;cases k with
  |true=>rw[if_pos rfl];exact⟨ι1,M1,env,S1,E.mono x1,h.up x1⟩|false=>rw[if_neg (by decide)];exact Zr.ok (h.up x1) S1 Rep.bl
 |_=>exact h.elim
def CW(X:Cx)(e:Expr)(f:E3):Prop:=PW X e (Z7 X.K f)
theorem CW.ct(h:CW X e f):CT X e f:=PW.pt h
theorem PW.imp{t t':TT}(h:PW X e t)(i:∀σ H Q,t' σ H Q->t σ H Q):PW X e t':=λwh pins s σ H Q I q=>h wh pins s σ H Q I (i σ H Q q)
theorem Jg(ha:CT X a f):CW X (.BoolOp .And [a] pos) f:=ZoQ ha
theorem DX(ha:CT X a f):CW X (.BoolOp .Or [a] pos) f:=ZqN ha
theorem Jh(ha:CT X a f)(hb:CW X (.BoolOp .And (b::rest) pos) g):CW X (.BoolOp .And (a::b::rest) pos) (cu f g):=PW.imp (ZqL ha hb) λσ H Q ak=>by
 obtain⟨ι,M,env,S,E,h⟩:=ak;obtain⟨d,M1,e1,h⟩:=oW.bind h;refine⟨ι,M,env,S,E,?_⟩;rw[e1];cases d with
 |bl k=>
  intro H1 ι1 x1 S1;cases k with
  |true=>rw[if_pos rfl];exact⟨ι1,M1,env,S1,E.mono x1,h.up x1⟩|false=>rw[if_neg (by decide)];exact h H1 ι1 x1 S1
 |_=>exact h.elim
theorem z_(ha:CT X a f)(hb:CW X (.BoolOp .Or (b::rest) pos) g):CW X (.BoolOp .Or (a::b::rest) pos) (gA f g):=PW.imp (Zs9 ha hb) λσ H Q ak=>by
 obtain⟨ι,M,env,S,E,h⟩:=ak;obtain⟨d,M1,e1,h⟩:=oW.bind h;refine⟨ι,M,env,S,E,?_⟩;rw[e1];cases d with
 |bl k=>
  intro H1 ι1 x1 S1;cases k with
  |false=>rw[if_neg (by decide)];exact⟨ι1,M1,env,S1,E.mono x1,h.up x1⟩|true=>rw[if_pos rfl];exact h H1 ι1 x1 S1
 |_=>exact h.elim
theorem Aa(ha:CT X a f):CT X (.UnaryOp .Not a pos) (e1 fX f):=(Zqm ha).imp λσ H Q ak=>by
 obtain⟨ι,M,env,S,E,h⟩:=ak;obtain⟨d,M1,e1,h⟩:=oW.bind h;refine⟨ι,M,env,S,E,?_⟩;rw[e1];cases d with
 |bl k=>exactλH1 ι1 x1 S1=>h H1 ι1 x1 S1|_=>exact h.elim
theorem ZuC(hc:CT X c f)(ha:C3 X a g)(hb:C3 X b h):C3 X (.IfExp c a b pos) (vy f g h):=(ZmG hc ha hb).imp λσ H Q ak=>by
 obtain⟨ι,M,env,S,E,h⟩:=ak;obtain⟨d,M1,e1,h⟩:=Zr.bind h;refine⟨ι,M,env,S,E,?_⟩;rw[e1];cases d with
 |bl k=>
  intro H1 ι1 x1 S1;cases k with
  |true=>rw[if_pos rfl];exact⟨ι1,M1,env,S1,E.mono x1,h.up x1⟩|false=>rw[if_neg (by decide)];exact⟨ι1,M1,env,S1,E.mono x1,h.up x1⟩
 |_=>exact h.elim
theorem Zg:CA X [] Zd:=Dm.imp λσ H Q ⟨ι,M,env,S,E,h⟩=>h [] H ι Ext.refl S Zo.nil
theorem Zb(ha:C3 X e f)(hr:CA X es gl)(hs:Yk (e::es) X.env=(false,aA e X.env)::Yk es X.env:=by rfl):CA X (e::es) (Za f gl):=(tV ha hr hs).imp λσ H Q ak=>by obtain⟨ι,M,env,S,E,h⟩:=ak;obtain⟨d,M1,e1,h⟩:=z8.bind h;obtain⟨ds,M2,e2,h⟩:=z8.bind h;refine⟨ι,M,env,S,E,?_⟩;rw[e1];intro v H1 ι1 x1 S1 r1;refine⟨ι1,M1,env,S1,E.mono x1,?_⟩;rw[e2];intro vs H2 ι2 x2 S2 r2;exact h (v::vs) H2 ι2 (x1.trans x2) S2 (Zo.cons (r1.mono x2) r2)
theorem Ab{x1}(h:CA X es gl):C3 X (.Tuple es x1 pos) (iH gl):=(Zqi h).imp λσ H Q ak=>by
 obtain⟨ι,M,env,S,E,h⟩:=ak;obtain⟨ds,M1,e1,h⟩:=Zr.bind h;refine⟨ι,M,env,S,E,?_⟩;rw[e1];intro vs H1 ι1 x1 S1 r1;by_cases hz:ds.length<=SZ
 .rw[if_pos hz]at h;refine⟨by rw[r1.length];exact Ys hz nP,λp hp=>?_⟩;obtain⟨x2,S2,r2⟩:=S1.wJ hp r1;exact h _ _ _ (x1.trans x2) S2 r2
 .rw[if_neg hz]at h;exact h.elim
theorem cV(h:CA X es gl):C3 X (.List es pos) (aB gl):=(ZrG h).imp λσ H Q ak=>by
 obtain⟨ι,M,env,S,E,h⟩:=ak;obtain⟨ds,M1,e1,h⟩:=Zr.bind h;refine⟨ι,M,env,S,E,?_⟩;rw[e1];intro vs H1 ι1 x1 S1 r1;by_cases hz:ds.length<=SZ
 .rw[if_pos hz]at h;refine⟨by rw[r1.length];exact Ys hz nP,λp hp=>?_⟩;obtain⟨x2,S2,r2⟩:=S1.lst hp r1;exact h _ _ _ (x1.trans x2) S2 r2
 .rw[if_neg hz]at h;exact h.elim
theorem Zm1(σ:St)(H:Hp)(Q:VK)(h:oV K (bB q gl) σ H Q):zJ (rB K q) (Pr K gl) σ H Q:=by obtain⟨ι,M,env,S,E,h⟩:=h;obtain⟨ds,M1,e1,h⟩:=Zr.bind h;refine⟨ι,M,env,S,E,?_⟩;rw[e1];intro vs H1 ι1 x1 S1 r1;exact⟨ι1,M1,ds,S1,r1,h.up x1⟩
theorem nY{x:aj}{id:String}(hc:cj X (.builtin id) (rB X.K q))(hm:X.mg x=Yi)(hv:fQ x=Ya (.builtin id))(ha:CA X (e::es) gl)(hg:Gl X x:=by rfl)(hn:x≠ "__name__":=by decide)(hdb:(x==("__debug__":aj))=false:=by decide)(he:Yk (e::es) X.env=(false,aA e X.env)::Yk es X.env:=by rfl)(hpl:(bI pos (Yk es X.env)).any (·.1)=false:=by rfl):C3 X (.Call (.Name x p) (e::es) [] pos) (bB q gl):=(Od hc hg hm hv ha hn hdb he hpl).imp Zm1
theorem xY{x:aj}{T:String}(hc:cj X (.type T) (rB X.K q))(hm:X.mg x=Yi)(hv:fQ x=Ya (.type T))(ha:CA X (e::es) gl)(hg:Gl X x:=by rfl)(hn:x≠ "__name__":=by decide)(hdb:(x==("__debug__":aj))=false:=by decide)(he:Yk (e::es) X.env=(false,aA e X.env)::Yk es X.env:=by rfl)(hpl:(bI pos (Yk es X.env)).any (·.1)=false:=by rfl):C3 X (.Call (.Name x p) (e::es) [] pos) (bB q gl):=(ZlK hc hg hm hv ha hn hdb he hpl).imp Zm1
theorem eG(hr:jB X (r2 X.K Zv))(ha:C3 X a f)(hb:C3 X b g)(hs:XQ b:=by exactλ_ _=>rfl):C3 X (.Subscript a b pos) (e2 Zv f g):=(ZsO hr ha hb hs).imp Jf
theorem Ac:CO X Yi eE:=Zou.imp λσ H Q ⟨ι,M,env,S,E,h⟩=>h H ι Ext.refl S
theorem qQ(h:C3 X e f):CO X (Ya e) (b_ f):=(ZoN h).imp λσ H Q ak=>by
 obtain⟨ι,M,env,S,E,h⟩:=ak;obtain⟨d,M1,e1,h⟩:=DR.bind h;refine⟨ι,M,env,S,E,?_⟩;rw[e1];intro v H1 ι1 x1 S1 r1;cases d with
 |int i=>exact⟨i,r1.int_inv,h H1 ι1 x1 S1⟩|_=>exact h.elim
theorem vW{lo hi:Option Expr}{ol oh:tY}{p2:aF}(hr:gY X (rS X.K))(he:C3 X e f)(hl:CO X lo ol)(hu:CO X hi oh):C3 X (.Subscript e (.Slice lo hi Yi p2) pos) (cG f ol oh):=(ZmO hr he hl hu).imp λσ H Q ak=>by obtain⟨ι,M,env,S,E,h⟩:=ak;obtain⟨d,M1,e1,h⟩:=Zr.bind h;obtain⟨l,M2,e2,h⟩:=Zr.bind h;obtain⟨u,M3,e3,h⟩:=Zr.bind h;refine⟨ι,M,env,S,E,?_⟩;rw[e1];intro v H1 ι1 x1 S1 r1;refine⟨ι1,M1,env,S1,E.mono x1,?_⟩;rw[e2];intro H2 ι2 x2 S2;refine⟨ι2,M2,env,S2,(E.mono x1).mono x2,?_⟩;rw[e3];intro H3 ι3 x3 S3;exact⟨ι3,M3,d,S3,(r1.mono x2).mono x3,((h.up x1).up x2).up x3⟩
theorem gC:nU X [] bT:=Zoe.imp λD σ H ⟨ι,M,env,S,E,h⟩=>h σ H ι Ext.refl S E
theorem cW{u:S3}(h:CS X st u):nU X [st] u:=HN h
theorem Zn{sts:List Ydr}{u w:S3}(h1:CS X st u)(h2:nU X sts w):nU X (st::sts) (Zw u w):=(HJ h1 h2).imp λD σ H ak=>by
 obtain⟨ι,M,env,S,E,h⟩:=ak;refine⟨ι,M,env,S,E,?_⟩;have h':j4 X.K H ι D (match u env M with| .nx env' M'=>w env' M'|o=>o):=h;cases q:u env M with
 |nx env' M'=>rw[q]at h';exactλσ' H' ι' x S' E'=>⟨ι',M',env',S',E',h'.up x⟩|_=>rw[q]at h';exact h'
theorem iJ{c1:Expr}{x y:List Ydr}{u w:S3}(hc:CT X c1 f)(ha:nU X x u)(hb:nU X y w):CS X (.If c1 x y pos) (bD f u w):=(Xd hc ha hb).imp λD σ H ak=>by
 obtain⟨ι,M,env,S,E,h⟩:=ak;refine⟨ι,M,env,S,E,?_⟩;unfold bD at h;cases q:f env M with
 | ok d M1=>
  rw[q]at h;cases d with
  |bl k=>
   intro H1 ι1 x1 S1;cases k with
   |true=>rw[if_pos rfl];exact⟨ι1,M1,env,S1,E.mono x1,h.up x1⟩|false=>rw[if_neg (by decide)];exact⟨ι1,M1,env,S1,E.mono x1,h.up x1⟩
  |_=>exact h.elim
 |exc x M1=>rw[q]at h;exact h.elim|bad=>rw[q]at h;exact h.elim
theorem dF(h:C3 X e f):CS X (.Return (Ya e) pos) (bG f):=(Zqo h).imp λD σ H ak=>by
 obtain⟨ι,M,env,S,E,h⟩:=ak;refine⟨ι,M,env,S,E,?_⟩;unfold bG at h;cases q:f env M with
 |ok d M1=>rw[q]at h;exact h|exc x M1=>rw[q]at h;exact h.elim|bad=>rw[q]at h;exact h.elim
theorem Px(h:C3 X e f)(hs:sJ e Yi pos.line X.env=pure false:=by rfl):CS X (.Expr e pos) (fL f):=(HS h hs).imp λD σ H ak=>by
 obtain⟨ι,M,env,S,E,h⟩:=ak;refine⟨ι,M,env,S,E,?_⟩;unfold fL at h;cases q:f env M with
 |ok d M1=>rw[q]at h;exactλv H1 ι1 x1 S1 r1=>h σ H1 ι1 x1 S1 (E.mono x1)|exc x M1=>rw[q]at h;exact h.elim|bad=>rw[q]at h;exact h.elim
theorem dm(i:Nat){x:aj}{pos':aF}(hN:X.N.Nodup)(he:C3 X e f)(hi:X.N[i]?=Ya x:=by rfl)(hx:Loc X.env.scope x:=by first|exact Or.inl rfl|exact Or.inr rfl)(hs:sJ e (Ya (.Name x pos')) pos.line X.env=pure false:=by rfl)(hf:X.fn x=true\/X.env.scope.names.lookup x=Ya .local:=by first|exact .inl rfl|exact .inr rfl):CS X (.Assign [.Name x pos'] e pos) (aP i f):=(Xi hN hi hx he hs hf).imp λD σ H ak=>by
 obtain⟨ι,M,env,S,E,h⟩:=ak;refine⟨ι,M,env,S,E,?_⟩;unfold aP at h;cases q:f env M with
 |ok d M1=>rw[q]at h;exactλv H1 ι1 x1 S1 r1=>h _ H1 ι1 x1 S1 ((E.mono x1).set i r1)|exc x M1=>rw[q]at h;exact h.elim|bad=>rw[q]at h;exact h.elim
end
noncomputable def xZ(K:Yb)(n:Nat)(F:F3):Sp:=λvs H Q _=>∃ι M ds,Zu K H ι M/\Zo K H ι ds vs/\ds.length=n/\Zr K H ι Q (F ds M)
section
variable {K:Yb} {H H':Hp} {ι ι':List Yl} {M M':Store}
mutual
theorem Rep.below:∀{d:D} {v:V},Rep K H ι d v->L3.below ι.length d=true
 | .non,_,_=>rfl|.bl _,_,_=>rfl|.int _,_,_=>rfl|.str _,_,_=>rfl
 | .tup ds,_,h=>by obtain⟨a,vs,_,_,r⟩:=h.gF;exact Zo.dH (ds:=ds) r|.aV ds,_,h=>by obtain⟨a,vs,_,_,r⟩:=h.rY;exact Zo.dH (ds:=ds) r|.ref n,_,h=>by obtain⟨a,q,_⟩:=h.dZ;exact decide_eq_true (Yj.mp q).1
theorem Zo.dH:∀{ds:List D} {vs:List V},Zo K H ι ds vs->L3.dH ι.length ds=true
 |[],_,_=>rfl|d::ds,_,h=>by obtain⟨v,ws,_,r,q⟩:=h.cons_inv;exact Yaw.mpr ⟨Rep.below (d:=d) r,Zo.dH (ds:=ds) q⟩
end
mutual
theorem Rep.cut{n:Nat}:∀{d:D} {v:V},L3.below n d=true->Rep K H ι d v->Rep K H (ι.take n) d v
 | .non,_,_,h=>h|.bl _,_,_,h=>h|.int _,_,_,h=>h|.str _,_,_,h=>h
 | .tup ds,_,hb,h=>by obtain⟨a,vs,rfl,s,r⟩:=h.gF;exact Rep.tup s (Zo.cut (ds:=ds) hb r)|.aV ds,_,hb,h=>by obtain⟨a,vs,rfl,s,r⟩:=h.rY;exact⟨a,vs,rfl,s,Zo.cut (ds:=ds) hb r⟩|.ref k,_,hb,h=>by obtain⟨a,q,rfl⟩:=h.dZ;refine Rep.ref ?_;rw[Gq (of_decide_eq_true hb)];exact q
theorem Zo.cut{n:Nat}:∀{ds:List D} {vs:List V},L3.dH n ds=true->Zo K H ι ds vs->Zo K H (ι.take n) ds vs
 |[],_,_,h=>h|d::ds,_,hb,h=>by obtain⟨v,ws,rfl,r,q⟩:=h.cons_inv;exact have w:=Yaw.mp (hb:(L3.below n d&&L3.dH n ds)=true);Zo.cons (Rep.cut (d:=d) w.1 r) (Zo.cut (ds:=ds) w.2 q)
end
theorem jJ.below{a:Yl}(h:jJ K H ι m a):zW ι.length m=true:=by
 cases m with
 |lst xs=>obtain⟨vs,_,r⟩:=h;exact r.dH|dct kvs=>obtain⟨ws,_,_,r⟩:=h;exact r.dH|cO kvs=>obtain⟨ws,_,_,r⟩:=h;exact r.dH|ins c fs=>
  rcases h with⟨_,_,gs,_,_,_,r⟩|⟨_,_,_,_,_,rfl|⟨_,_,_,_,_,_,r⟩⟩
  .exact r.dH
  .rfl
  .exact r.dH
theorem jJ.cut{a:Yl}(hb:zW n m=true)(h:jJ K H ι m a):jJ K H (ι.take n) m a:=by
 cases m with
 |lst xs=>obtain⟨vs,q,r⟩:=h;exact⟨vs,q,r.cut hb⟩|dct kvs=>obtain⟨ws,q,r1,r2⟩:=h;exact⟨ws,q,r1,r2.cut hb⟩|cO kvs=>obtain⟨ws,q,r1,r2⟩:=h;exact⟨ws,q,r1,r2.cut hb⟩|ins c fs=>
  rcases h with⟨C,dx,gs,q,c,r1,r2⟩|⟨C,dd,q,z,c,h|⟨dx,o,gs,e,f,r1,r2⟩⟩
  .exact .inl ⟨C,dx,gs,q,c,r1,r2.cut hb⟩
  .exact .inr ⟨C,dd,q,z,c,.inl h⟩
  .exact .inr ⟨C,dd,q,z,c,.inr ⟨dx,o,gs,e,f,r1,r2.cut hb⟩⟩
theorem Zu.cut(S:Zu K H ι M)(h:(M.take n).all (zW n)=true):Zu K H (ι.take n) (M.take n):=by
 refine⟨by simp[S.len],S.nd.sublist (U3 _ _),λk m a h1 h2=>?_⟩;have hk:k<n:=by have:=(Yj.mp h1).1;rw[sX]at this;exact Yw this (Nat.min_le_left _ _)
 have hb:zW n m=true:=jT.mp h m (uX h1);rw[Gq hk]at h1 h2;exact(S.obj k m a h1 h2).cut hb
theorem Py(S:Zu K H ι M)(x:Ext K H ι H' ι')(S':Zu K H' ι' M')(r:Rep K H' ι' d v)(h:Zr K H ι Q (jg M d M')):Q v H':=by
 unfold jg at h;split at h
 .rename_i c;simp only[gq,Mh,decide_eq_true_eq]at c;have hall:(M'.take M.length).all (zW M.length)=true:=by
   rcases c.2 with e|e
   .rw[e,jT];intro m hm;obtain⟨n,hn⟩:=Ci hm;obtain⟨a,q,w⟩:=S.at hn;rw[←S.len];exact w.below
   .exact e
  refine h v H' (ι'.take M.length) ⟨x.tup,x.aV,λn a q=>?_,x.bA⟩ (S'.cut hall) (r.cut c.1);rw[Gq (by rw[←S.len];exact(Yj.mp q).1)];exact x.pre n a q
 .exact h v H' ι' x S' r
end
theorem aY.start(r:Zo K H ι ds vs)(n:Nat):aY K H ι (ds.map Ya++Yt n Yi) (vs.map Ya++Yt n Yi):=by
 refine⟨by simp[r.length],λi d h=>?_⟩;by_cases hi:i<ds.length
 .rw[Y7 (by simpa using hi),gn]at h;cases q:ds[i]? with
  |none=>rw[q]at h;simp at h|some d'=>rw[q]at h;simp at h;subst h;obtain⟨v,e,z⟩:=r.get q;refine⟨v,?_,z⟩;rw[Y7 (by simpa[r.length]using hi),gn,e];rfl
 .rw[wX (by simpa using hi),Gr]at h;split at h<;>simp at h
variable{ps:List aj}
section
variable {P:Yz} {w:aD} {K:Yb} {mg:aj->Option Yd} {base:ao}
theorem fn3{x qual:aj}{f:Yl}{fd:fC}{N:List aj}{k:Nat}(F:nC K x qual st f fd)(S:dY N ps (Zq st))(hb:∀(cdv:Yd) (A:aU) (outer:List b7) (s:Yg) (H:Hp) (E:XK),bZ k (A.deeper (jz qual (Zq st) s.heap.objs.size f cdv))->nU (lQ nA P w K mg base N qual (Zq st) f cdv A outer s H E).gw (gM st) body):
  dN P w K mg base nA (k+1) f fd ps (xZ K ps.length (dB ps.length N.length body)):=by
 refine F.ok S (λvs H Q E ⟨ι,M,ds,_,r,l,_⟩=>by rw[r.length,l]) λcdv A outer s H vs Q E hr ak=>?_;obtain⟨ι,M,ds,SR,r,l,h⟩:=ak;refine⟨_,hb cdv A outer s H E hr,ι,M,ds.map Ya++Yt (N.length-ps.length) Yi,SR,?_,?_⟩
 .have e:L2.start N vs=vs.map Ya++Yt (N.length-ps.length) Yi:=by unfold L2.start;rw[r.length,l]
  rw[e];exact aY.start r _
 .unfold dB at h;rw[if_pos l]at h;cases q:body (ds.map Ya++Yt (N.length-ps.length) Yi) M with
  |nx env' M'=>rw[q]at h;exactλσ' H' ι' x S' E'=>Py SR x S' Rep.non h|rt d M'=>rw[q]at h;exactλv H' ι' x S' r'=>Py SR x S' r' h|bk _ _=>rw[q]at h;exact h.elim|ct _ _=>rw[q]at h;exact h.elim
  |exc _ _=>rw[q]at h;exact h.elim|bad=>rw[q]at h;exact h.elim
def cD(P:Yz)(w:aD)(K:Yb)(mg:aj->Option Yd)(base:ao)(k:Nat)(x:aj)(ps:List aj)(F:F3):Prop:=(∀ds M,ds.length≠ps.length->F ds M= .bad)/\∃f fd,mg x=Ya (.ref f)/\uJ K (.ref f)=true/\Binds K fd ps []/\dN P w K mg base nA k f fd ps (xZ K ps.length F)
def dG(K:Yb)(mg:aj->Option Yd)(x:aj)(st:Ydr)(ps:List aj):Prop:=∃f fd,nC K x x st f fd/\mg x=Ya (.ref f)/\Binds K fd ps []
theorem cD.of{x:aj}{N:List aj}{k:Nat}(d:dG K mg x st ps)(S:dY N ps (Zq st))(hb:∀(f:Yl) (cdv:Yd) (A:aU) (outer:List b7) (s:Yg) (H:Hp) (E:XK),bZ k (A.deeper (jz x (Zq st) s.heap.objs.size f cdv))->nU (lQ nA P w K mg base N x (Zq st) f cdv A outer s H E).gw (gM st) body):
  cD P w K mg base (k+1) x ps (dB ps.length N.length body):=by
 obtain⟨f,fd,F,m,bi⟩:=d;exact⟨λds M h=>if_neg h,f,fd,m,F.kp,bi,fn3 F S (hb f)⟩
end
section
variable {X:Cx} {e:Expr} {es:List Expr} {pos p:aF} {gl:bW} {x:aj} {k:Nat} {ps:List aj} {F:F3}
theorem jk(G:cD X.prog X.w X.K X.mg X.base k x ps F)(hr:bZ k X.A)(ha:CA X (e::es) gl)(hg:Gl X x:=by rfl)(hdb:(x==("__debug__":aj))=false:=by decide)(he:Yk (e::es) X.env=(false,aA e X.env)::Yk es X.env:=by rfl)(hpl:(bI pos (Yk es X.env)).any (·.1)=false:=by rfl):C3 X (.Call (.Name x p) (e::es) [] pos) (aN F gl):=by
 obtain⟨hn,f,fd,m,kp,bi,ok⟩:=G;refine(Zop ok hr hg m kp bi .nil YD ha hdb he hpl).imp λσ H Q ak=>?_;obtain⟨ι,M,env,S,E,h⟩:=ak;obtain⟨ds,M1,e1,h⟩:=Zr.bind h;refine⟨ι,M,env,S,E,?_⟩;rw[e1];intro vs H1 ι1 x1 S1 r1;have hl:ds.length=ps.length:=by refine M8 λq=>?_;rw[hn ds M1 q]at h;exact h.elim
 exact⟨ι1,M1,ds,S1,by rw[gW];exact r1,hl,h.up x1⟩
end
def tGf(K:Yb)(g:G3):TG:=λv σ H Q=>∃ι M env d env',Zu K H ι M/\aY K H ι env σ/\Rep K H ι d v/\g d env=Ya env'/\∀σ',aY K H ι env' σ'->Q σ' H
def tGs(K:Yb)(is:List Nat):tQ:=λvs σ H Q=>∃ι M env ds env',Zu K H ι M/\aY K H ι env σ/\Zo K H ι ds vs/\bindAll is ds env=Ya env'/\∀σ',aY K H ι env' σ'->Q σ' H
def CG(X:Cx)(tg:Expr)(g:G3):Prop:=PG X tg (tGf X.K g)
def Ji(X:Cx)(tg:List Expr)(is:List Nat):Prop:=qx X tg (tGs X.K is)
theorem PG.imp{t t':TG}(h:PG X e t)(i:∀v σ H Q,t' v σ H Q->t v σ H Q):PG X e t':=λpins s σ H v u Q I r q=>h pins s σ H v u Q I r (i v σ H Q q)
theorem qx.imp{e:List Expr}{t t':tQ}(h:qx X e t)(i:∀v σ H Q,t' v σ H Q->t v σ H Q):qx X e t':=λpins s σ H v u Q I r q=>h pins s σ H v u Q I r (i v σ H Q q)
section
variable {X:Cx} {e:Expr} {es:List Expr} {pos:aF}
theorem qR(i:Nat){x:aj}(hN:X.N.Nodup)(hi:X.N[i]?=Ya x:=by rfl)(hx:Loc X.env.scope x:=by first|exact Or.inl rfl|exact Or.inr rfl)(hf:X.fn x=true\/X.env.scope.names.lookup x=Ya .local:=by first|exact .inl rfl|exact .inr rfl):CG X (.Name x pos) (cM i):=PG.imp (Xg hN hi hx hf) λv σ H Q ak=>by obtain⟨ι,M,env,d,env',S,E,r,q,h⟩:=ak;cases q;exact h _ (E.set i r)
theorem Pz:Ji X [] []:=qx.imp Zo0 λv σ H Q ak=>by
 obtain⟨ι,M,env,ds,env',S,E,r,q,h⟩:=ak;cases ds with
 |nil=>cases q;exact⟨r.nil_inv,h σ E⟩|cons d ds=>cases q
theorem Ad(i:Nat){is:List Nat}{x:aj}(hN:X.N.Nodup)(ht:Ji X es is)(hi:X.N[i]?=Ya x:=by rfl)(hx:Loc X.env.scope x:=by first|exact Or.inl rfl|exact Or.inr rfl)(hf:X.fn x=true\/X.env.scope.names.lookup x=Ya .local:=by first|exact .inl rfl|exact .inr rfl)(hs:(oA (.Name x pos::es) X.env).map (·.2)=lw (.Name x pos) X.env::(oA es X.env).map (·.2):=by rfl):
  Ji X (.Name x pos::es) (i::is):=qx.imp (ZnC (Xg hN hi hx hf) ht hs) λv σ H Q ak=>by
 obtain⟨ι,M,env,ds,env',S,E,r,q,h⟩:=ak;cases ds with
 |nil=>cases q|cons d ds=>obtain⟨v,ws,rfl,r1,r2⟩:=r.cons_inv;exact⟨v,ws,rfl,ι,M,env.set i (Ya d),ds,env',S,E.set i r1,r2,q,h⟩
theorem PB{is:List Nat}{k:Nat}(hc:X.calm=true)(h:Ji X es is)(hl:es.length=is.length:=by rfl)(hn:(oA es X.env).length=is.length:=by rfl)(hst:(oA es X.env).findIdx? (·.1)=Yi:=by rfl):CG X (.Tuple es k pos) (qM is):=
 PG.imp (Zrl (n:=is.length) hc h hn hst) λv σ H Q ak=>by
  obtain⟨ι,M,env,d,env',S,E,r,q,h⟩:=ak;cases d with
  | tup ds=>
   obtain⟨a,vs,rfl,s,r⟩:=r.gF;have hlen:∀(is:List Nat) (ds:List D) (env env':Zt),bindAll is ds env=Ya env'->ds.length=is.length:=by
    intro is
    induction is with
    |nil=>intro ds env env' h;cases ds with|nil=>rfl|cons d ds=>cases h
    |cons i is ih=>intro ds env env' h;cases ds with|nil=>cases h|cons d ds=>simp[ih ds _ _ h]
   exact⟨a,vs,rfl,s,by rw[r.length];exact hlen _ _ _ _ q,ι,M,env,ds,env',S,E,r,q,h⟩
  |_=>cases q
end
def oX(K:Yb)(H:Hp)(ι:List Yl)(it:gO)(J:It):Prop:=∀(i:Nat) H2 ι2 M2,Ext K H ι H2 ι2->Zu K H2 ι2 M2->locked it M2=true ->
 (∀d,it.items[i]?=Ya d->J.go i H2/\∀x H3,J.HW i H2 x H3->H3=H2/\Rep K H2 ι2 d x)/\(i=it.items.length->J.stop i H2)
def Ae(K:Yb)(H:Hp)(ι:List Yl)(R:It->Hp->Prop)(r:R3 gO):Prop:=match r with
 | .ok it M'=>∀J H' ι',Ext K H ι H' ι'->Zu K H' ι' M'->oX K H' ι' it J->R J H'|_=>False
def NK(K:Yb)(g:I3):TI:=λσ H R=>∃ι M env,Zu K H ι M/\aY K H ι env σ/\Ae K H ι R (g env M)
def CI(X:Cx)(tg e:Expr)(g:I3):Prop:=PI X tg e (NK X.K g)
theorem PI.imp{tg:Expr}{t t':TI}(h:PI X tg e t)(i:∀σ H Q,t' σ H Q->t σ H Q):PI X tg e t':=λpins s σ H Q I q=>h pins s σ H Q I (i σ H Q q)
theorem PI.or{tg:Expr}{t t':TI}(h:PI X tg e t)(h':PI X tg e t'):PI X tg e (λσ H R=>t σ H R\/t' σ H R):=λpins s σ H Q I q=>q.elim (h pins s σ H Q I) (h' pins s σ H Q I)
theorem Ae.bind{Q:It->Hp->Prop}{r:R3 α}{k:α->Store->R3 gO}(h:Ae K H ι Q (r.bind k)):∃a M,r= .ok a M/\Ae K H ι Q (k a M):=by
 cases r with
 |ok a M=>exact⟨a,M,rfl,h⟩|exc x M=>exact h.elim|bad=>exact h.elim
section
variable {X:Cx} {tg e a b:Expr} {pos p:aF} {f g:E3}
theorem ZrE(h:C3 X e f)(hs:PI X tg e (λσ H R=>oV X.K f σ H λx H1=>∃z:aj,x= .str z/\z.length<=SZ/\∀J,(∀ι,oX X.K H1 ι ⟨z.cps.toList.map λc=>.str [c],Yi⟩ J)->R J H1)):CI X tg e (cN f):=
 PI.imp (PI.or (ZqE h) (PI.or (ZoE h) hs)) λσ H R ak=>by
  obtain⟨ι,M,env,S,E,h⟩:=ak;obtain⟨d,M1,e1,h⟩:=Ae.bind h;cases d with
  |tup ds=>refine .inl ⟨ι,M,env,S,E,?_⟩;rw[e1];intro v H1 ι1 x1 S1 r1;obtain⟨a,vs,rfl,s,r⟩:=r1.gF;refine⟨a,rfl,⟨vs,s⟩,h _ H1 ι1 x1 S1 ?_⟩;intro i H2 ι2 M2 x S2 _;refine⟨λd hd=>?_,λhl=>⟨vs,x.tup _ _ s,by rw[r.length,hl];exact Yq _⟩⟩;obtain⟨v,hv,rv⟩:=r.get hd;refine⟨⟨vs,v,x.tup _ _ s,hv⟩,λy H3 hy=>⟨hy.1,?_⟩⟩;have e:=hy.2 vs (x.tup _ _ s);rw[hv]at e;cases e;exact rv.mono x|aV ds=>refine .inr (.inl ⟨ι,M,env,S,E,?_⟩);rw[e1];intro v H1 ι1 x1 S1 r1;obtain⟨a,vs,rfl,s,r⟩:=r1.rY;refine⟨a,rfl,⟨vs,s.sq⟩,h _ H1 ι1 x1 S1 ?_⟩;intro i H2 ι2 M2 x S2 _;refine⟨λd hd=>?_,λhl=>⟨vs,(x.aV _ _ s).sq,by rw[r.length,hl];exact Yq _⟩⟩;obtain⟨v,hv,rv⟩:=r.get hd;refine⟨⟨vs,v,(x.aV _ _ s).sq,hv⟩,λy H3 hy=>⟨hy.1,?_⟩⟩;have e:=hy.2 vs (x.aV _ _ s).sq;rw[hv]at e;cases e;exact rv.mono x|ref n=>
   refine .inr (.inl ⟨ι,M,env,S,E,?_⟩);rw[e1];intro v H1 ι1 x1 S1 r1;cases hm:M1[n]? with
   |none=>simp only[hm]at h;exact h.elim|some o=>
    cases o with
    |dct kvs=>simp only[hm]at h;exact h.elim|cO kvs=>simp only[hm]at h;exact h.elim|ins _ _=>simp only[hm]at h;exact h.elim|lst ds=>simp only[hm]at h;obtain⟨a,ha,rfl⟩:=r1.dZ;obtain⟨vs,q,r⟩:=S1.obj n _ a hm ha;refine⟨a,rfl,⟨vs,bK.of q⟩,h _ H1 ι1 x1 S1 ?_⟩;intro i H2 ι2 M2 x S2 lk;have vX:M2[n]?=Ya (.lst ds):=of_decide_eq_true lk;obtain⟨vs2,q2,r2⟩:=S2.obj n _ a vX (x.pre _ _ ha);refine⟨λd hd=>?_,λhl=>⟨vs2,bK.of q2,by rw[r2.length,hl];exact Yq _⟩⟩;obtain⟨v,hv,rv⟩:=r2.get hd;refine⟨⟨vs2,v,bK.of q2,hv⟩,λy H3 hy=>⟨hy.1,?_⟩⟩;have e:=hy.2 vs2 (bK.of q2);rw[hv]at e;cases e;exact rv
  | str z=>
   refine .inr (.inr ⟨ι,M,env,S,E,?_⟩);rw[e1];intro v H1 ι1 x1 S1 r1;have hv:=r1.str_inv;subst hv;by_cases hz:z.length<=SZ
   .simp only[if_pos hz]at h;refine⟨_,rfl,by simpa[oH]using hz,λJ hJ=>h J H1 ι1 x1 S1 ?_⟩;simpa using hJ ι1
   .simp only[if_neg hz]at h;exact h.elim
  |non=>exact h.elim|bl b=>exact h.elim|int i=>exact h.elim
theorem Zm3(lo:Int)(n:Nat):oX K H ι ⟨lU lo n,Yi⟩ (HY lo n):=by
 intro i H2 ι2 M2 x S _;refine⟨λd hd=>?_,λhl=>?_⟩
 .unfold lU at hd;rw[gn]at hd;cases q:(jx n)[i]? with
  |none=>rw[q]at hd;cases hd|some k=>
   rw[q]at hd;obtain⟨hi,e⟩:=Yj.mp q;rw[UW]at e;subst e;have hd':D.int (lo+(i:Int))=d:=by simpa using hd
   subst hd';exact⟨(by show i<n;simpa using hi),λy H3 hy=>⟨hy.1,by rw[hy.2];exact Rep.int⟩⟩
 .show n<=i;rw[hl];simp[lU]
theorem Zlp(hm:X.mg "range" =Yi)(h:C3 X a f)(hg:Gl X "range":=by rfl)(hs:Yk [a] X.env=[(false,aA a X.env)]:=by rfl)(hs':Yk (a::[]) X.env=(false,aA a X.env)::Yk [] X.env:=by rfl):CI X tg (.Call (.Name "range" p) [a] [] pos) (zV f):=
 PI.imp (ZlT hg hm (Zb h Zg hs') hs) λσ H R ak=>by
  obtain⟨ι,M,env,S,E,h⟩:=ak;obtain⟨d,M1,e1,h⟩:=Ae.bind h;refine⟨ι,M,env,S,E,?_⟩;have e2:Za f Zd env M= .ok [d] M1:=by unfold Za;rw[e1];rfl
  rw[e2];intro vs H1 ι1 x1 S1 r1;obtain⟨v,ws,rfl,r,q⟩:=r1.cons_inv;have:=q.nil_inv;subst this;cases d with
  | int j=>
   have hv:=r.int_inv;subst hv;by_cases hj:j<=1000000/\ -1000000<=j
   .simp only[if_pos hj]at h;exact⟨j,rfl,by omega,by omega,h _ H1 ι1 x1 S1 (Zm3 0 j.toNat)⟩
   .simp only[if_neg hj]at h;exact h.elim
  |_=>exact h.elim
theorem Zmn{iter:Expr}{body:List Ydr}{i:I3}{g:G3}{u:S3}(DY:X.xe=λ_ _=>False)(hc:X.calm=true)(hi:CI X tg iter i)(hg:CG X tg g)(hb:nU X body u)(hs:∀x,wQ iter X.env x=pure x:=by intro _;rfl):
  CS X (.For tg iter body [] pos) (xR i g u):=(Ia (by rw[DY];exact Ws) hc hi hg hb hs).imp λD σ H ak=>by
 obtain⟨ι,M,env,S,E,h⟩:=ak;unfold xR at h;cases q:i env M with
 |exc x M1=>rw[q]at h;exact h.elim|bad=>rw[q]at h;exact h.elim|ok it M1=>
  rw[q]at h;refine⟨ι,M,env,S,E,?_⟩;rw[q];intro J H1 ι1 x1 S1 ok;refine⟨λi m σ2 H2=>m=it.items.length-i/\i<=it.items.length/\∃ι2 M2 eV,Ext X.K H1 ι1 H2 ι2/\Zu X.K H2 ι2 M2/\aY X.K H2 ι2 eV σ2/\j4 X.K H2 ι2 D (jf it g u (it.items.drop i) eV M2),
   ⟨_,rfl,jy _,ι1,M1,env,Ext.refl,S1,E.mono x1,j4.up x1 h⟩,?_⟩
  rintro i m σ2 H2 ⟨rfl,hi,ι2,M2,eV,x2,S2,E2,h2⟩;by_cases hlt:i<it.items.length
  .have hd:it.items[i]?=Ya it.items[i]:=by simp[hlt]
   rw[Cg hlt]at h2
   first|rw[DN]at h2|rw[DK]at h2
   by_cases lk:locked it M2=true
   .rw[if_pos lk]at h2;obtain⟨go,yl⟩:=(ok i H2 ι2 M2 x2 S2 lk).1 _ hd;cases eg:g it.items[i] eV with
    |none=>rw[eg]at h2;exact h2.elim|some jq=>
     rw[eg]at h2;refine .inr ⟨go,λσ' H'=>∃ι3 M3 gG,Ext X.K H2 ι2 H' ι3/\Zu X.K H' ι3 M3/\aY X.K H' ι3 gG σ'/\j4 X.K H' ι3 D (jf it g u (it.items.drop (i+1)) gG M3),
      λσ' H' ⟨ι3,M3,gG,x3,S3,E3,h3⟩=>⟨it.items.length-(i+1),lD 2 0x30113c2012a1c0c21 T1 (p8 (lB 1 6991908881 T1 hlt)) (qp _ _),rfl,hlt,ι3,M3,gG,x2.trans x3,S3,E3,h3⟩,λx H' hy=>?_⟩
     obtain⟨rfl,rx⟩:=yl x H' hy;refine⟨ι2,M2,eV,_,jq,S2,E2,rx,eg,λσ' E'=>⟨ι2,M2,jq,S2,E',?_⟩⟩;cases qu:u jq M2 with
     |nx e' M'=>simp only[qu]at h2;exactλσ' H' ι' x' S' E'=>⟨ι',M',e',x',S',E',h2.up x'⟩|ct e' M'=>simp only[qu]at h2;exactλσ' H' ι' x' S' E'=>⟨ι',M',e',x',S',E',h2.up x'⟩|bk e' M'=>simp only[qu]at h2;exact h2|rt d M'=>simp only[qu]at h2;exact h2
     |exc x' M'=>simp only[qu]at h2;exact h2.elim|bad=>simp only[qu]at h2;exact h2.elim
   .rw[if_neg lk]at h2;exact h2.elim
  .have e0:i=it.items.length:=eZ hi (jc hlt);subst e0;rw[Cj]at h2
   first|rw[DN]at h2|rw[DK]at h2
   by_cases lk:locked it M2=true
   .rw[if_pos lk]at h2;exact .inl ⟨(ok _ H2 ι2 M2 x2 S2 lk).2 rfl,h2 σ2 H2 ι2 Ext.refl S2 E2⟩
   .rw[if_neg lk]at h2;exact h2.elim
end
theorem Rep.Agu(r:Rep K H ι d v):decide (v=V.non)=decide (d=D.non):=by
 cases d with
 |non=>rw[r.iT];rfl|bl b=>rw[r.fO];rfl|int i=>rw[r.int_inv];rfl|str x=>rw[r.str_inv];rfl
 |tup ds=>obtain⟨a,vs,e,_⟩:=r.gF;rw[e];rfl|aV ds=>obtain⟨a,vs,e,_⟩:=r.rY;rw[e];rfl|ref n=>obtain⟨a,_,e⟩:=r.dZ;rw[e];rfl
theorem ZfQ{x y:List Nat}:decide (V.str ⟨x.toArray⟩=V.str ⟨y.toArray⟩)=(x==y):=by
 by_cases h:x=y
 .subst h;simp
 .rw[decide_eq_false (λe=>h (by injection e with e1;injection e1 with e2;simpa using congrArg Cy e2))]
  exact(beq_eq_false_iff_ne.mpr h).symm
section
variable {X:Cx}
theorem Zm5:aJ X (iB .Add) (λx y H Q=>∃a b ys,x= .ref a/\y= .ref b/\bY X.K H a []/\bY X.K H b ys/\Q (.ref b) H):=by
 intro pins s σ H x y v u Q I rx ry h;obtain⟨a,b,ys,rfl,rfl,ha,hb,q⟩:=h;cases rx;cases ry;obtain⟨its,r1,p1,_⟩:=I.tuple ha;obtain⟨its2,r2,p2,_⟩:=I.tuple hb;cases r1;obtain⟨⟨cls,dd,data,sl⟩,ho,hc,n,hd⟩:=id p1;obtain⟨⟨cls2,dd2,data2,sl2⟩,ho2,hc2,n2,hd2⟩:=id p2;simp only at hc hd hc2 hd2;subst hc hd hc2 hd2;exact Lf ⟨_,ho,rfl⟩ ⟨_,ho2,rfl⟩ La Le Mp Mm (Ml _ _)
   (tuple_addW0 a b _ its2.toArray n n2 dd dd2 sl sl2 (by simp)) ⟨ho,ho2,⟨.ref b,H,I,rfl,q⟩⟩
theorem Zpf(x y:List Nat):(⟨x.toArray⟩:aj)++⟨y.toArray⟩=⟨(x++y).toArray⟩:=by show Str.append _ _=_;unfold Str.append;simp
noncomputable def Jj(o:Option D)(f:D->R3 D):R3 D:=match o with
 |some d=>f d|none=>.bad
theorem PJ{o:Option D}{f:D->R3 D}(h:Zr K H ι Q (Jj o f)):∃x,o=Ya x/\Zr K H ι Q (f x):=by
 cases o with
 |none=>exact h.elim|some x=>exact⟨x,rfl,h⟩
noncomputable def onN(o:Option Nat)(f:Nat->R3 D):R3 D:=match o with
 |some d=>f d|none=>.bad
theorem ZoL{o:Option Nat}{f:Nat->R3 D}(h:Zr K H ι Q (onN o f)):∃x,o=Ya x/\Zr K H ι Q (f x):=by
 cases o with
 |none=>exact h.elim|some x=>exact⟨x,rfl,h⟩
noncomputable def onL(o:Option MO)(f:List D->R3 D):R3 D:=match o with
 |some (.lst x)=>f x|_=>.bad
theorem Zn6{o:Option MO}{f:List D->R3 D}(h:Zr K H ι Q (onL o f)):∃x,o=Ya (.lst x)/\Zr K H ι Q (f x):=by
 cases o with
 |none=>exact h.elim|some o=>cases o with
  |lst x=>exact⟨x,rfl,h⟩|_=>exact h.elim
noncomputable def ZsF(a b:Option MO)(f:List D->List D->R3 D):R3 D:=match a,b with
 |some (.lst x),Ya (.lst y)=>f x y|_,_=>.bad
theorem Znq{a b:Option MO}{f:List D->List D->R3 D}(h:Zr K H ι Q (ZsF a b f)):∃x y,a=Ya (.lst x)/\b=Ya (.lst y)/\Zr K H ι Q (f x y):=by
 cases a with
 |none=>exact h.elim|some a=>cases a with
  | lst x=>cases b with
   |none=>exact h.elim|some b=>cases b with
    |lst y=>exact⟨x,y,rfl,rfl,h⟩|_=>exact h.elim
  |_=>exact h.elim
theorem Jk{c:Prop}{_:Decidable c}(h:Zr K H ι Q (if c then r else .bad)):c/\Zr K H ι Q r:=by
 by_cases hc:c
 .rw[if_pos hc]at h;exact⟨hc,h⟩
 .rw[if_neg hc]at h;exact h.elim
theorem ZiM(r:Zo K H ι ds []):ds=[]:=Ce r.length.symm
theorem qU:aJ X (iB .Add) (r2 X.K di):=aJ.imp (aJ.or ZqT (aJ.or ZjB (aJ.or ZqR (aJ.or Zor Zm5)))) λx y H Q ak=>by
 obtain⟨ι,M,a,b,S,ra,rb,h⟩:=ak;cases a with
 |int i=>cases b with
  |int j=>exact .inl ⟨i,j,ra.int_inv,rb.int_inv,Zr.ok h S Rep.int⟩|_=>exact h.elim
 | str x=>cases b with
  |str y=>obtain⟨hz,h⟩:=Jk h;exact .inr (.inl ⟨_,_,ra.str_inv,rb.str_inv,Ys hz nP,by rw[Zpf];exact Zr.ok h S Rep.str⟩)|_=>exact h.elim
 | tup x=>cases b with
  | tup y=>
   obtain⟨hz,h⟩:=Jk h;obtain⟨p,vs,e,s,r⟩:=ra.gF;obtain⟨q,ws,e',s',r'⟩:=rb.gF;by_cases hv:vs=[]
   .rw[hv]at r s;rw[ZiM r]at h;exact .inr (.inr (.inr (.inr ⟨p,q,ws,e,e',s,s',Zr.ok h S (Rep.tup s' r')⟩)))
   .refine .inr (.inr (.inr (.inl ⟨p,q,vs,ws,e,e',s,s',hv,by rw[r.length,r'.length];exact Ys hz nP,λhw=>?_,λhw p' hp=>?_⟩)))
    .rw[hw]at r';rw[ZiM r',gW]at h;exact Zr.ok h S (Rep.tup s r)
    .obtain⟨x2,S2,r2⟩:=S.wJ hp (r.append r');exact h _ _ _ x2 S2 r2
  |_=>exact h.elim
 | ref n=>cases b with
  |ref m=>have h:Zr X.K H ι Q (ZsF M[n]? M[m]? λx y=>@ite _ (x.length+y.length<=SZ) (Yp _) (alloc (.lst (x++y)) M) .bad):=h;obtain⟨x,y,hn,hm,h⟩:=Znq h;obtain⟨hz,h⟩:=Jk h;obtain⟨p,hp,e⟩:=ra.dZ;obtain⟨q,hq,e'⟩:=rb.dZ;obtain⟨vs,e1,r1⟩:=S.obj n _ p hn hp;obtain⟨ws,e2,r2⟩:=S.obj m _ q hm hq;refine .inr (.inr (.inl ⟨p,q,vs,ws,e,e',e1,e2,by rw[r1.length,r2.length];exact Ys hz nP,λp' hp'=>?_⟩));obtain⟨x2,S2,r3⟩:=S.lst hp' (r1.append r2);exact h _ _ _ x2 S2 r3|_=>exact h.elim
 |_=>cases b<;>exact h.elim
theorem ZpF:aJ X (iB .Sub) (r2 X.K xJ):=aJ.imp Zp3 λx y H Q ak=>by obtain⟨ι,M,a,b,S,ra,rb,h⟩:=ak;cases a<;>cases b<;>first|exact h.elim|exact⟨_,_,ra.int_inv,rb.int_inv,Zr.ok h S Rep.int⟩
theorem gU:aJ X (iB .Mod) (r2 X.K bO):=aJ.imp Zqf λx y H Q ak=>by
 obtain⟨ι,M,a,b,S,ra,rb,h⟩:=ak;cases a with
 | int i=>cases b with
  | int j=>
   simp only[ZC]at h;split at h
   .rename_i hj;exact⟨i,j,ra.int_inv,rb.int_inv,hj,Zr.ok h S Rep.int⟩
   .exact h.elim
  |_=>exact h.elim
 |_=>cases b<;>exact h.elim
theorem j5:aJ X (iB .FloorDiv) (r2 X.K cF):=aJ.imp Zpe λx y H Q ak=>by
 obtain⟨ι,M,a,b,S,ra,rb,h⟩:=ak;cases a with
 | int i=>cases b with
  | int j=>
   simp only[ZD]at h;split at h
   .rename_i hj;exact⟨i,j,ra.int_inv,rb.int_inv,hj,Zr.ok h S Rep.int⟩
   .exact h.elim
  |_=>exact h.elim
 |_=>cases b<;>exact h.elim
theorem Jl:aJ X (iB .Pow) (r2 X.K nD):=aJ.imp Zrt λx y H Q ak=>by
 obtain⟨ι,M,a,b,S,ra,rb,h⟩:=ak;cases a with
 | int i=>cases b with
  | int j=>
   simp only[ZF]at h;split at h
   .rename_i hj;exact⟨i,j,ra.int_inv,rb.int_inv,⟨hj.1,iN [] [_] 1 0xf42405b083e83b081 T1 hj.2.1,by have:=hj.2.2;omega⟩,Zr.ok h S Rep.int⟩
   .exact h.elim
  |_=>exact h.elim
 |_=>cases b<;>exact h.elim
theorem nZ:tU X (Gk .USub) (r1 X.K cA):=tU.imp ZqA λx H Q ak=>by
 obtain⟨ι,M,a,S,ra,h⟩:=ak;cases a with
 |int i=>exact⟨i,ra.int_inv,Zr.ok h S Rep.int⟩|_=>exact h.elim
theorem Jm:aJ X (fB .Lt) (r2 X.K jY):=aJ.imp Ztm λx y H Q ak=>by obtain⟨ι,M,a,b,S,ra,rb,h⟩:=ak;cases a<;>cases b<;>first|exact h.elim|exact⟨_,_,ra.int_inv,rb.int_inv,Zr.ok h S Rep.bl⟩
theorem PL:aJ X (fB .Gt) (r2 X.K nF):=aJ.imp ZsN λx y H Q ak=>by obtain⟨ι,M,a,b,S,ra,rb,h⟩:=ak;cases a<;>cases b<;>first|exact h.elim|exact⟨_,_,ra.int_inv,rb.int_inv,Zr.ok h S Rep.bl⟩
theorem Ztn:aJ X (fB .GtE) (r2 X.K vz):=aJ.imp ZsZ λx y H Q ak=>by obtain⟨ι,M,a,b,S,ra,rb,h⟩:=ak;cases a<;>cases b<;>first|exact h.elim|exact⟨_,_,ra.int_inv,rb.int_inv,Zr.ok h S Rep.bl⟩
theorem PN:aJ X (fB .Is) (r2 X.K vA):=aJ.imp ZpT λx y H Q ak=>by
 obtain⟨ι,M,a,b,S,ra,rb,h⟩:=ak;cases b with
 |non=>exact⟨rb.iT,by rw[ra.Agu];exact Zr.ok h S Rep.bl⟩|_=>exact h.elim
end
theorem units_in1(A:aU):A.in1.units=A.units+1:=rfl
variable{A:aU}{es:List D}
section
variable {X:Cx} {pins:List (Yl×aq)} {σ:St} {H:Hp} {s:Yg} {ι:List Yl}
theorem Zih{e:Nat->Bool}:∀{x y:List D},x.length=y.length->(∀(j:Nat) a b,x[j]?=Ya a->y[j]?=Ya b->e j=e_ a b)->(jx x.length).all e=fH x y:=by
 intro x
 induction x generalizing e with
 |nil=>intro y h _;cases y with|nil=>rfl|cons _ _=>simp at h
 | cons a x ih=>
  intro y h he;cases y with
  |nil=>simp at h|cons b y=>rw[iC,Ux,mY,GD,he 0 a b rfl rfl];rw[Oo];congr 1;exact ih (e:=e ∘ Nat.succ) (by simpa using h) λj a' b' h1 h2=>he (j+1) a' b' (by simpa using h1) (by simpa using h2)
theorem Zjh:∀{x y:List D},fH x y=true->x.length=y.length
 |[],[],_=>rfl|[],_::_,h=>ft h|_::_,[],h=>ft h|a::x,b::y,h=>congrArg Nat.succ (Zjh (Yaw.mp (h:(e_ a b&&fH x y)=true)).2)
theorem Jo(h:bV 0 d=true):d_ d=true:=by cases d<;>first|exact rfl|exact h
theorem Af(h:bV (n+1) d=true):d_ d=true\/∃ds,d= .tup ds:=by
 cases d with
 |tup ds=>exact .inr ⟨ds,rfl⟩|aV _=>exact ft h|ref _=>exact ft h|_=>exact .inl rfl
theorem Zhj{a b:D}(fa:d_ a=true)(fb:d_ b=true)(r:Rep K H ι a v)(q:Rep K H ι b v):e_ a b=true:=by
 cases a with
 |non=>have e:=r.iT;cases b with
  |non=>rfl|bl _=>cases e.symm.trans q.fO|int _=>cases e.symm.trans q.int_inv|str _=>cases e.symm.trans q.str_inv
  |_=>exact ft fb
 |bl x=>have e:=r.fO;cases b with
  |non=>cases e.symm.trans q.iT|bl _=>exact beq_iff_eq.mpr (V.bl.inj (e.symm.trans q.fO))|int _=>cases e.symm.trans q.int_inv|str _=>cases e.symm.trans q.str_inv
  |_=>exact ft fb
 |int x=>have e:=r.int_inv;cases b with
  |non=>cases e.symm.trans q.iT|bl _=>cases e.symm.trans q.fO|int _=>exact beq_iff_eq.mpr (V.int.inj (e.symm.trans q.int_inv))|str _=>cases e.symm.trans q.str_inv
  |_=>exact ft fb
 |str x=>have e:=r.str_inv;cases b with
  |non=>cases e.symm.trans q.iT|bl _=>cases e.symm.trans q.fO|int _=>cases e.symm.trans q.int_inv|str _=>exact ZfQ.symm.trans (decide_eq_true (e.symm.trans q.str_inv))
  |_=>exact ft fb
 |_=>exact ft fa
theorem ZiN{a:D}{p:Yl}(fa:d_ a=true)(r:Rep K H ι a v)(e:v= .ref p):False:=by
 cases a with
 |non=>cases e.symm.trans r.iT|bl x=>cases e.symm.trans r.fO|int x=>cases e.symm.trans r.int_inv|str x=>cases e.symm.trans r.str_inv
 |_=>exact ft fa
theorem Rep.fun1(I:Inv X pins σ H s):∀(n:Nat) (a b:D) (v:V),bV n a=true->bV n b=true->Rep X.K H ι a v->Rep X.K H ι b v->e_ a b=true:=by
 intro n
 induction n with
 |zero=>intro a b v ha hb r q;exact Zhj (Jo ha) (Jo hb) r q|succ n ih=>
  intro a b v ha hb r q;rcases Af ha with fa|⟨ds,ea⟩
  .rcases Af hb with fb|⟨es,eb⟩
   .exact Zhj fa fb r q
   .rw[eb]at q;obtain⟨p,vs,e,_⟩:=q.gF;exact(ZiN fa r e).elim
  .rw [ea]at r ha ⊢;obtain⟨p,vs,e,s1,r1⟩:=r.gF;rcases Af hb with fb|⟨es,eb⟩
   .exact(ZiN fb q e).elim
   .rw[eb]at q hb ⊢;obtain⟨p',ws,e',s2,r2⟩:=q.gF;rw[←V.ref.inj (e.symm.trans e')]at s2;rw[←I.Ko s1 s2]at r2;clear s1 s2 e e' q r eb ea;rw[YW];revert ha hb r1 r2
    induction ds generalizing es vs with
    |nil=>
     intro _ r1 _ r2;cases es with
     |nil=>rfl|cons _ _=>obtain⟨_,_,e,_⟩:=r2.cons_inv;cases r1.nil_inv.symm.trans e
    | cons d ds ih2=>
     intro h1 r1 h2 r2;obtain⟨v,ws,e,q1,q2⟩:=r1.cons_inv;cases es with
     |nil=>cases r2.nil_inv.symm.trans e|cons e' es=>obtain⟨v',ws',z,q3,q4⟩:=r2.cons_inv;obtain⟨z1,z2⟩:=oJ (z.symm.trans e);rw[z1]at q3;rw[z2]at q4;have g1:=Yaw.mp (h1:(bV n d&&ds.all (bV n))=true);have g2:=Yaw.mp (h2:(bV n e'&&es.all (bV n))=true);rw[Oo,ih d e' v g1.1 g2.1 q1 q3];exact ih2 ws es g1.2 q2 g2.2 q4
theorem Ag{x:V}(r:Rep K H ι .non x)(e:RelV x u):u= .none:=by rw[r.iT]at e;cases e;rfl
theorem vY{b:Bool}{x:V}(r:Rep K H ι (.bl b) x)(e:RelV x u):u= .bool b:=by rw[r.fO]at e;cases e;rfl
theorem vZ{i:Int}{x:V}(r:Rep K H ι (.int i) x)(e:RelV x u):∃t,u= .int i t:=by rw[r.int_inv]at e;exact e
theorem v4{i:List Nat}{x:V}(r:Rep K H ι (.str i) x)(e:RelV x u):∃t,u= .str ⟨i.toArray⟩ t:=by rw[r.str_inv]at e;exact e
inductive PQ(X:Cx)(H:Hp)(ι:List Yl)(T:Yl->Array Yd->Prop)(ds:List D)(x:V)(u:Yd):Prop
 |mk (p:Yl) (vs:List V) (its:List Yd):x= .ref p->u= .ref p->T p its.toArray->Zo X.K H ι ds vs->Vals vs its->PQ X H ι T ds x u
theorem Ah(I:Inv X pins σ H s){x:V}(r:Rep X.K H ι (.tup ds) x)(e:RelV x u):PQ X H ι s.heap.IsTuple ds x u:=by obtain⟨p,vs,ex,s1,r1⟩:=r.gF;obtain⟨its,rvs,ht,_⟩:=I.tuple s1;rw[ex]at e;exact⟨p,vs,its,ex,e,ht,r1,rvs⟩
theorem N8{i k:List Nat}:decide (i=k)=((⟨i.toArray⟩:aj)==⟨k.toArray⟩):=by
 rw[←GZ,←ZfQ];by_cases h:(⟨i.toArray⟩:aj)=⟨k.toArray⟩
 .rw[h,beq_self_eq_true];exact decide_eq_true rfl
 .rw[beq_eq_false_iff_ne.mpr h];exact decide_eq_false λe=>h (V.str.inj e)
theorem Zoz{i k:List Nat}:e_ (.str i) (.str k)=((⟨i.toArray⟩:aj)==⟨k.toArray⟩):=vd (show(i==k)=decide (i=k)from GZ i k) N8
theorem Zg4(A:aU)(a b:D)(x y:V)(u v:Yd)(ha:d_ a=true)(hb:d_ b=true)(ra:Rep X.K H ι a x)(rb:Rep X.K H ι b y)(ru:RelV x u)(rv:RelV y v):u_ A s u v (e_ a b):=by
 cases a with
 |non=>rw[Ag ra ru];cases b with
  |non=>rw[Ag rb rv];exact Ng _|bl k=>rw[vY rb rv];exact Wd _|int k=>obtain⟨t,e⟩:=vZ rb rv;rw[e];exact Wh _ _|str k=>obtain⟨t,e⟩:=v4 rb rv;rw[e];exact Wi _ _
  |_=>exact ft hb
 |bl i=>rw[vY ra ru];cases b with
  |non=>rw[Ag rb rv];exact Wf _|bl k=>rw[vY rb rv];exact Wg _ _|int k=>obtain⟨t,e⟩:=vZ rb rv;rw[e];exact Wj _ _ _|str k=>obtain⟨t,e⟩:=v4 rb rv;rw[e];exact Wk _ _ _
  |_=>exact ft hb
 |int i=>obtain⟨t0,e0⟩:=vZ ra ru;rw[e0];cases b with
  |non=>rw[Ag rb rv];exact Wl _ _|bl k=>rw[vY rb rv];exact Wm _ _ _|int k=>obtain⟨t,e⟩:=vZ rb rv;rw[e];exact Wq _ _ _ _|str k=>obtain⟨t,e⟩:=v4 rb rv;rw[e];exact Nb _ _ _ _
  |_=>exact ft hb
 |str i=>obtain⟨t0,e0⟩:=v4 ra ru;rw[e0];cases b with
  |non=>rw[Ag rb rv];exact Wn _ _|bl k=>rw[vY rb rv];exact Wo _ _ _|int k=>obtain⟨t,e⟩:=vZ rb rv;rw[e];exact Nf _ _ _ _|str k=>obtain⟨t,e⟩:=v4 rb rv;rw[e,Zoz];exact Wr _ _ _ _
  |_=>exact ft hb
 |_=>exact ft ha
noncomputable def D_(ds es:List D)(j:Nat):Bool:=match ds[j]?,es[j]? with|some a,Ya b=>e_ a b|_,_=>false
theorem ZkX(hl:ds.length≠es.length):fH ds es=false:=by
 cases q:fH ds es with
 |false=>rfl|true=>exact absurd (Zjh q) hl
theorem Zk5(hn:n=ds.length)(hl:ds.length=es.length):(jx n).all (D_ ds es)=fH ds es:=by rw[hn];exact Zih hl λj a b h1 h2=>by unfold D_;rw[h1,h2]
theorem ZkK{m:Nat}(hn:n=ds.length)(hm:m=es.length):((jx (fG n m)).all (D_ ds es)&&n==m)=fH ds es:=by
 by_cases hl:ds.length=es.length
 .have e:n=m:=hn.trans (hl.trans hm.symm);rw[←e,Nat.min_self,beq_self_eq_true,Vr];exact Zk5 hn hl
 .rw[ZkX hl,beq_eq_false_iff_ne.mpr λe=>hl (hn.symm.trans (e.trans hm)),Vo]
theorem oY{its:List Yd}(r:Zo X.K H ι ds vs)(v:Vals vs its):its.toArray.size=ds.length:=Yo.trans (v.length.symm.trans r.length)
theorem PX{ws:List V}{its its2:List Yd}(ih:∀(a b:D) (x y:V) (u v:Yd),bV n a=true->bV n b=true->Rep X.K H ι a x->Rep X.K H ι b y->RelV x u->RelV y v->u_ A s u v (e_ a b))(p1:ds.all (bV n)=true)(p2:es.all (bV n)=true)(r1:Zo X.K H ι ds vs)(r2:Zo X.K H ι es ws)(v1:Vals vs its)(v2:Vals ws its2)(j:Nat)(h1:j<its.toArray.size)(h2:j<its2.toArray.size):u_ A s its.toArray[j] its2.toArray[j] (D_ ds es j):=by
 have k1:j<ds.length:=by rw[←oY r1 v1];exact h1
 have k2:j<es.length:=by rw[←oY r2 v2];exact h2
 have q1:=lG k1;have q2:=lG k2;obtain⟨x,g1,z1⟩:=r1.get q1;obtain⟨y,g2,z2⟩:=r2.get q2;obtain⟨u,e1,l1⟩:=v1.get g1;obtain⟨v,e2,l2⟩:=v2.get g2;unfold D_;rw[q1,q2];obtain⟨_,e1⟩:=Yj.mp e1;obtain⟨_,e2⟩:=Yj.mp e2;exact ih _ _ x y _ _ (jT.mp p1 _ (sY k1)) (jT.mp p2 _ (sY k2)) z1 z2 (e1▸l1) (e2▸l2)
theorem Zip(A:aU)(hu1:A.units<fV){a:D}{x:V}{p:Yl}{its:Array Yd}(ha:d_ a=true)(ra:Rep X.K H ι a x)(ru:RelV x u)(it:s.heap.IsTuple p its):u_ A s u (.ref p) (e_ a (.tup es))/\u_ A s (.ref p) u (e_ (.tup es) a):=by
 cases a with
 |non=>rw[Ag ra ru];exact⟨SeqAt.EqAt.none_tuple it hu1,SeqAt.EqAt.tuple_none it hu1⟩|bl k=>rw[vY ra ru];exact⟨SeqAt.EqAt.bool_tuple _ it hu1,SeqAt.EqAt.tuple_bool _ it hu1⟩|int k=>obtain⟨t,e⟩:=vZ ra ru;rw[e];exact⟨SeqAt.EqAt.int_tuple _ _ it hu1,SeqAt.EqAt.tuple_int _ _ it hu1⟩|str k=>obtain⟨t,e⟩:=v4 ra ru;rw[e];exact⟨SeqAt.EqAt.str_tuple _ _ it hu1,SeqAt.EqAt.tuple_str _ _ it hu1⟩
 |_=>exact ft ha
theorem ZmK(I:Inv X pins σ H s):∀(n:Nat) (A:aU) (_:A.units+n+1<fV) (a b:D) (x y:V) (u v:Yd),bV n a=true->bV n b=true->Rep X.K H ι a x->Rep X.K H ι b y->RelV x u->RelV y v->u_ A s u v (e_ a b):=by
 intro n
 induction n with
 |zero=>intro A hu a b x y u v ha hb ra rb ru rv;exact Zg4 A a b x y u v (Jo ha) (Jo hb) ra rb ru rv|succ n ih=>
  intro A hu a b x y u v ha hb ra rb ru rv;have hu0:A.units+0+1<fV:=lC 1 0x2ae0cc12aa1c0cc11 T1 hu;have hu1:A.units<fV:=lB 1 1104257534993 T1 hu0;rcases Af ha with fa|⟨ds,ea⟩
  .rcases Af hb with fb|⟨es,eb⟩
   .exact Zg4 A a b x y u v fa fb ra rb ru rv
   .rw[eb]at rb ⊢;obtain⟨p,vs,its,ex,eu,t,_⟩:=Ah I rb rv;rw[eu];exact(Zip A hu1 fa ra ru t).1
  .rw[ea]at ra ha ⊢;obtain⟨p,vs,its,ex,eu,t,r1,v1⟩:=Ah I ra ru;rw[eu];rcases Af hb with fb|⟨es,eb⟩
   .exact(Zip A hu1 fb rb rv t).2
   .rw[eb]at rb hb ⊢;obtain⟨q,ws,its2,ey,ev,t',r2,v2⟩:=Ah I rb rv;rw[ev];by_cases hp:p=q
    .rw[ey,←hp,←ex]at rb;rw[Rep.fun1 I (n+1) _ _ _ ha hb ra rb,hp];exact Ng _
    .refine SeqAt.EqAt.of_refs hp ?_;rw[YW,←ZkK (oY r1 v1) (oY r2 v2)];exact Ww t t' hu1 (PX (ih A.in1 (by rw[units_in1];exact lC 1 0x2a1a0ccc12aa1c0cc11 T1 hu)) ha hb r1 r2 v1 v2)
end
section
variable {X:Cx}
section
variable {pins:List (Yl×aq)} {σ:St} {H:Hp} {s:Yg} {ι:List Yl}
theorem Zpu(I:Inv X pins σ H s)(S:Zu X.K H ι M){x:V}(h:M[n]?=Ya (.lst ds))(r:Rep X.K H ι (.ref n) x)(e:RelV x u):PQ X H ι s.heap.IsList ds x u:=by obtain⟨p,hp1,ex⟩:=r.dZ;obtain⟨vs,e1,r1⟩:=S.obj n _ p h hp1;obtain⟨its,rvs,pl1,_⟩:=I.list (bK.of e1);rw[ex]at e;exact⟨p,vs,its,ex,e,pl1.isList,r1,rvs⟩
inductive x_(M:Store)(a b:D)(k:Bool):Prop
 |ref {n m:Nat} (ds es:List D):a= .ref n->b= .ref m->fH ds es=k->M[n]?=Ya (.lst ds)->M[m]?=Ya (.lst es)->ds.all (bV DEEP)=true/\es.all (bV DEEP)=true->x_ M a b k
 |int (i j:Int):a= .int i->b= .int j->decide (i=j)=k->x_ M a b k
 |str (i j:List Nat):a= .str i->b= .str j->decide (i=j)=k->x_ M a b k
 |bl (i j:Bool):a= .bl i->b= .bl j->decide (i=j)=k->x_ M a b k
 |tup {ds es:List D}:a= .tup ds->b= .tup es->fH ds es=k->ds.all (bV DEEP)=true/\es.all (bV DEEP)=true->x_ M a b k
theorem P0{c d:Bool}{a k:α}(h:(if c&&d then Ya a else Yi)=Ya k):a=k/\c=true/\d=true:=by
 cases c with
 |false=>exact fW h|true=>cases d with
  |false=>exact fW h|true=>exact⟨Y3 h,rfl,rfl⟩
noncomputable def Zum(a b:Option MO):Option Bool:=match a,b with
 |some (.lst x),Ya (.lst y)=>if x.all (bV DEEP)&&y.all (bV DEEP)then Ya (fH x y)else Yi|_,_=>Yi
theorem ZoB{m:Nat}{k:Bool}(h:Zum M[n]? M[m]?=Ya k):x_ M (.ref n) (.ref m) k:=by
 cases e1:M[n]? with
 |none=>rw[e1]at h;exact fW h|some o=>cases o with
  | lst x=>cases e2:M[m]? with
   |none=>rw[e1,e2]at h;exact fW h|some o=>cases o with
    |lst y=>rw[e1,e2]at h;exact have w:=P0 h;.ref x y rfl rfl w.1 e1 e2 w.2|_=>rw[e1,e2]at h;exact fW h
  |_=>rw[e1]at h;exact fW h
theorem eqK{a b:D}{k:Bool}(h:oM a b M=Ya k):x_ M a b k:=by
 cases a with
 |ref n=>cases b with
  |ref m=>exact ZoB h|_=>exact fW h
 |int i=>cases b with
  |int j=>exact .int i j rfl rfl (Y3 h)|_=>exact fW h
 |str i=>cases b with
  |str j=>exact .str i j rfl rfl (Y3 h)|_=>exact fW h
 |bl i=>cases b with
  |bl j=>exact .bl i j rfl rfl (Y3 h)|_=>exact fW h
 |tup ds=>cases b with
  |tup es=>exact have w:=P0 h;.tup rfl rfl w.1 w.2|_=>exact fW h
 |_=>cases b<;>exact fW h
theorem Zk6{a b:D}{x y:V}{v:Yd}{k:Bool}(hu:X.A.units+80<fV)(I:Inv X pins σ H s)(S:Zu X.K H ι M)(ra:Rep X.K H ι a x)(rb:Rep X.K H ι b y)(ru:RelV x u)(rv:RelV y v)(h:oM a b M=Ya k):SeqAt.RcAt X.A s u v k/\SeqAt.RcNeAt X.A s u v (!k):=by
 have hu1:X.A.units<fV:=lB 1 17666545486865 T1 hu;have hu2:X.A.in1.units+DEEP+1<fV:=by rw[units_in1];exact(show X.A.units+1+60+1<fV from lB 1 0x1a3c2ba0ccc11502b0c11 T1 hu)
 rcases eqK h with⟨ds,es,ea,eb,ek,e1,e2,p1,p2⟩|⟨i,j,ea,eb,ek⟩|⟨i,j,ea,eb,ek⟩|⟨i,j,ea,eb,ek⟩|⟨ea,eb,ek,p1,p2⟩
 .rw[ea]at ra;rw[eb]at rb;rw[←ek];obtain⟨p,vs,its,_,eu,t,r1,v1⟩:=Zpu I S e1 ra ru;obtain⟨q,ws,its2,_,ev,t',r2,v2⟩:=Zpu I S e2 rb rv;rw[eu,ev];by_cases hl:ds.length=es.length
  .rw[←Zk5 (oY r1 v1) hl];have hz:=(oY r1 v1).trans (hl.trans (oY r2 v2).symm);have w:=PX (ZmK I DEEP X.A.in1 hu2) p1 p2 r1 r2 v1 v2;exact⟨SeqAt.RcAt.lists t t' hz hu1 w,SeqAt.RcNeAt.lists t t' hz hu1 w⟩
  .rw[ZkX hl];have hz:(its.toArray.size !=its2.toArray.size)=true:=bne_iff_ne.mpr λe=>hl ((oY r1 v1).symm.trans (e.trans (oY r2 v2)));exact⟨SeqAt.RcAt.lists_lengths t t' hz hu1,SeqAt.RcNeAt.lists_lengths t t' hz hu1⟩
 .rw[ea]at ra;rw[eb]at rb;obtain⟨t,e⟩:=vZ ra ru;obtain⟨t',e'⟩:=vZ rb rv;rw[e,e',←ek,←GZ];exact⟨SeqAt.RcAt.int_int _ _ _ _,SeqAt.RcNeAt.int_int _ _ _ _⟩
 .rw[ea]at ra;rw[eb]at rb;obtain⟨t,e⟩:=v4 ra ru;obtain⟨t',e'⟩:=v4 rb rv;rw[e,e',←ek,N8];exact⟨SeqAt.RcAt.str_str _ _ _ _,SeqAt.RcNeAt.str_str _ _ _ _⟩
 .rw[ea]at ra;rw[eb]at rb;rw[vY ra ru,vY rb rv,←ek,←GZ];exact⟨SeqAt.RcAt.bool_bool _ _,SeqAt.RcNeAt.bool_bool _ _⟩
 .rw[ea]at ra;rw[eb]at rb;obtain⟨p,vs,its,_,eu,t,r1,v1⟩:=Ah I ra ru;obtain⟨q,ws,its2,_,ev,t',r2,v2⟩:=Ah I rb rv;rw[eu,ev,←ek,←ZkK (oY r1 v1) (oY r2 v2)];have w:=PX (ZmK I DEEP X.A.in1 hu2) p1 p2 r1 r2 v1 v2;exact⟨Ww t t' hu1 w,SeqAt.RcNeAt.tuples t t' hu1 w⟩
end
theorem uc(hu:X.A.units+80<fV):aJ X (fB .Eq) (r2 X.K cQ):=by
 intro pins s σ H x y v u Q I rx ry h;obtain⟨ι,M,a,b,S,ra,rb,h⟩:=h;unfold cQ at h;cases q:oM a b M with
 |none=>rw[q]at h;exact h.elim|some k=>rw[q]at h;exact(Zk6 hu I S ra rb rx ry q).1 X.prog X.w X.xe _ ⟨.bl k,H,I,rfl,Zr.ok h S Rep.bl⟩
theorem P_{i:Int}(r:Zo K H ι ds vs)(h:dz ds i=Ya d):∃v,xG vs i=Ya v/\Rep K H ι d v:=by
 unfold dz at h;unfold xG;have e:zK vs.length i=jE ds.length i:=by rw[r.length];rfl
 rw[e];cases q:jE ds.length i with
 |none=>rw[q]at h;cases h|some j=>rw[q]at h;exact r.get h
theorem eN:jB X (r2 X.K Zv):=jB.imp Zrx λx y H Q ak=>by
 obtain⟨ι,M,a,b,S,ra,rb,h⟩:=ak;cases a with
 | tup ds=>cases b with
  |int i=>have h:Zr X.K H ι Q (Jj (dz ds i) (λd=>.ok d M)):=h;obtain⟨d,q,h⟩:=PJ h;obtain⟨p,vs,e',s1,r1⟩:=ra.gF;obtain⟨v,e,rv⟩:=P_ r1 q;exact .inr (.inl ⟨p,vs,i,v,e',rb.int_inv,s1,e,Zr.ok h S rv⟩)|_=>exact h.elim
 | aV ds=>cases b with
  |int i=>have h:Zr X.K H ι Q (Jj (dz ds i) (λd=>.ok d M)):=h;obtain⟨d,q,h⟩:=PJ h;obtain⟨p,vs,e',s1,r1⟩:=ra.rY;obtain⟨v,e,rv⟩:=P_ r1 q;exact .inl ⟨p,vs,i,v,e',rb.int_inv,s1.sq,e,Zr.ok h S rv⟩|_=>exact h.elim
 | str z=>cases b with
  |int i=>have h:Zr X.K H ι Q (onN (dz z i) (λc=>@ite _ (z.length<=SZ) (Yp _) (.ok (.str [c]) M) .bad)):=h;obtain⟨c,q,h⟩:=ZoL h;obtain⟨hz,h⟩:=Jk h;exact .inr (.inr ⟨_,i,c,ra.str_inv,rb.int_inv,Ys hz nP,q,Zr.ok h S Rep.str⟩)|_=>exact h.elim
 | ref n=>cases b with
  |int i=>have h:Zr X.K H ι Q (onL (M[n]?) (λds=>Jj (dz ds i) λd=>.ok d M)):=h;obtain⟨ds,hn,h⟩:=Zn6 h;obtain⟨d,q,h⟩:=PJ h;obtain⟨p,hp,e'⟩:=ra.dZ;obtain⟨vs,e1,r1⟩:=S.obj n _ p hn hp;obtain⟨v,e,rv⟩:=P_ r1 q;exact .inl ⟨p,vs,i,v,e',rb.int_inv,bK.of e1,e,Zr.ok h S rv⟩|_=>exact h.elim
 |_=>cases b<;>exact h.elim
theorem Qa(r:Zo K H ι ds vs)(lo hi:Option Int):Zo K H ι (cutD ds lo hi) (vo vs lo hi):=by
 have e:∀n d o,HT.au n d o=au n d o:=λn d o=>by cases o<;>rfl
 unfold cutD vo;rw[e,e,r.length];exact(r.drop _).take _
end
noncomputable def iK(cells:List (aj×Yl)):List (aj×NameKind)->List (aj×Yl)->List (aj×Yl)
 |[],cs=>cs|(n,k)::r,cs=>iK cells r (if k== .free then(n,(cells.lookup n).getD 0)::cs else cs)
theorem Ea{cells:List (aj×Yl)}{n:aj}{k:NameKind}{r:List (aj×NameKind)}{cs:List (aj×Yl)}:iK cells ((n,k)::r) cs=iK cells r (if k== .free then(n,(cells.lookup n).getD 0)::cs else cs):=rfl
theorem Zd0{scope:Scope}{env:b7}(h:∀y∈scope.names,y.2= .free->∃c,env.cells.lookup y.1=Ya c):closureFor scope env=pure (iK env.cells scope.names []):=by
 unfold closureFor;have key:∀(names:List (aj×NameKind)) (cs:List (aj×Yl)),(∀y∈names,y.2= .free->∃c,env.cells.lookup y.1=Ya c) ->
   (forIn names cs λx r=>match x with|(name,kind)=>if(kind==NameKind.free)=true then do let c ←cellOf env name;pure (ForInStep.yield ((name,c)::r))else pure (ForInStep.yield r):lF (List (aj×Yl)))=pure (iK env.cells names cs):=by
  intro names
  induction names with
  |nil=>intro cs _;rfl|cons y r ih=>
   intro cs hy;obtain⟨n,k⟩:=y;rw[LQ];by_cases hk:k= .free
   .subst hk;obtain⟨c,hc⟩:=hy (n,.free) Y0 rfl;have e1:cellOf env n=pure c:=by unfold cellOf;rw[hc]
    simp only[beq_self_eq_true,if_true,e1,pure_bind];rw[ih _ λz hz=>hy z (Yx _ hz)];rw[Ea,hc];rfl
   .have hb:(k==NameKind.free)=false:=by simpa using hk
    simp only[hb,Cq,if_false,pure_bind];rw[ih _ λz hz=>hy z (Yx _ hz)];rw[Ea,hb];rfl
 have:=key scope.names [] h
 first
  |exact this
  |(simp only[bind_pure];exact this)
theorem Zlh{cells:List (aj×Yl)}{x:aj}{c:Yl}:∀(names:List (aj×NameKind)) (cs:List (aj×Yl)),(∀y∈names,y.2= .free->∃c,cells.lookup y.1=Ya c)->(iK cells names cs).lookup x=Ya c->cs.lookup x=Ya c\/cells.lookup x=Ya c:=by
 intro names
 induction names with
 |nil=>intro cs _ h;exact .inl h|cons y r ih=>
  intro cs hy h;obtain⟨n,k⟩:=y;rw[Ea]at h;rcases ih _ (λz hz=>hy z (Yx _ hz)) h with q|q
  .by_cases hk:k= .free
   .subst hk;obtain⟨c0,hc⟩:=hy (n,.free) Y0 rfl;simp only[beq_self_eq_true,if_true,hc,Option.getD_some,gH]at q;cases hx:x==n with
    |true=>
     simp only[hx]at q;cases q;have:x=n:=by simpa using hx
     subst this;exact .inr hc
    |false=>simp only[hx]at q;exact .inl q
   .have hb:(k==NameKind.free)=false:=by simpa using hk
    simp only[hb,Cq,if_false]at q;exact .inl q
  .exact .inr q
theorem ZjM{cells:List (aj×Yl)}{x:aj}:∀(names:List (aj×NameKind)) (cs:List (aj×Yl)),(cs.lookup x).isSome=true->((iK cells names cs).lookup x).isSome=true:=by
 intro names
 induction names with
 |nil=>intro cs h;exact h|cons y r ih=>
  intro cs h;obtain⟨n,k⟩:=y;rw[Ea];refine ih _ ?_;split
  .rw[gH];split
   .rfl
   .exact h
  .exact h
theorem Zg3{cells:List (aj×Yl)}{x:aj}:∀(names:List (aj×NameKind)) (cs:List (aj×Yl)),(x,NameKind.free)∈names->((iK cells names cs).lookup x).isSome=true:=by
 intro names
 induction names with
 |nil=>intro cs h;cases h|cons y r ih=>
  intro cs h;obtain⟨n,k⟩:=y;rw[Ea];rcases Y5.mp h with e|h
  .cases e
   refine ZjM _ _ ?_;simp
  .exact ih _ h
noncomputable def jK(X:Cx)(scope:Scope)(N':List aj)(C:Yl)(cl:List (aj×Yl))(s:Yg)(H:Hp)(ex:List Yl):Cx:={X with N:=N',s₀:=s,H₀:=H,env:=Gi scope cl C X.env,outer:=X.stack,stack:=X.stack,ex:=ex,fn:=λ_=>false,pn:=[],xe:=λ_ _=>False}
noncomputable def Qc(N N':List aj)(scope:Scope):Bool:=(jx N.length).all λi=>match N'[i]? with
 |some x=>(scope.names.lookup x).isNone|| (decide (N[i]?=Ya x)&&decide (scope.names.lookup x=Ya .free))|none=>false
def ud(X:Cx)(ifs:List Expr)(ts:List E3):Prop:=∀(pins:List (Yl×aq)) (s:Yg) (σ:St) (H:Hp) (Q:Bool->Hp->Prop),Inv X pins σ H s ->
 (∃ι M env,Zu X.K H ι M/\aY X.K H ι env σ/\match vI ts env M with| .ok b M'=>∀H' ι',Ext X.K H ι H' ι'->Zu X.K H' ι' M'->Q b H'|_=>False) ->
 Y1 (Y9 X.prog X.w) X.A (forIn ifs true λc r=>if r=true then do let ok ←isTrue c X.env (aA c X.env);pure (ForInStep.yield ok)else pure (ForInStep.yield r)) (TP X pins σ Q) X.xe s
theorem Ai:ud X [] []:=λpins s σ H Q I ⟨ι,M,env,S,E,h⟩=>wpAny_tests_nil ⟨H,I,h H ι Ext.refl S⟩
theorem ZoA{c:Expr}(hc:CT X c f):ud X [c] [f]:=λpins s σ H Q I ak=>by
 obtain⟨ι,M,env,S,E,h⟩:=ak;refine wpAny_tests_one (hc pins s σ H Q I ⟨ι,M,env,S,E,?_⟩);rw[O2]at h;cases q:f env M with
 | ok d M1=>
  rw[q]at h;cases d with
  |bl b=>cases b with
   |true=>exact h|false=>exact h
  |_=>exact h.elim
 |exc x M1=>rw[q]at h;exact h.elim|bad=>rw[q]at h;exact h.elim
section
variable {prog:Yz} {w:aD} {A:aU} {R:sS->Yg->Prop} {s:Yg}
theorem Zik{elt target iter:Expr}{ifs:List Expr}{scope:Scope}{pos:aF}{it acc:Yd}{env:b7}(I:Nat->Yg->Prop)(turn:∀n s,I n s->Y1 (Y9 prog w) A (oE it) (λr s₁=>match r with
   |none=>R (.ok .next) s₁|some v=>Y1 (Y9 prog w) A (BV target it v) (λ_ s₁'=>Y1 (Y9 prog w) A (lw target env v) (λ_ s₂=>
     Y1 (Y9 prog w) A (forIn ifs true λc r=>if r=true then do let ok ←isTrue c env (aA c env);pure (ForInStep.yield ok)else pure (ForInStep.yield r)) (λok s₃=>
      if ok=true then Y1 (Y9 prog w) A (aA elt env) (λx s₄=>Y1 (Y9 prog w) A (call (.builtin "list.append") [acc,x]) (λ_ s₅=>∃m,m<n/\I m s₅) (λ_ _=>False) s₄) (λ_ _=>False) s₃
      else∃m,m<n/\I m s₃) (λ_ _=>False) s₂) (λ_ _=>False) s₁') (λ_ _=>False) s₁) (λ_ _=>False) s)(n:Nat)(h:I n s):mU (Y9 prog w) A (.compLoop (.ListComp elt [⟨target,iter,ifs,0⟩] scope pos) 0 it acc env) R s:=by
 refine codeAny_loop rfl I (λn s hI=>?_) n h;show Y1 _ A ((compTurn (.ListComp elt [⟨target,iter,ifs,0⟩] scope pos) 0 it acc env).onRaise (λx=>do Ca x env;theTreesLotGoes x)) _ _ s;refine wpAny_noted ?_;rw[compTurn_list];refine Yc (pZ (Yc (dw (turn n s hI) (λr s₁ h₁=>?_) λ_ _ h'=>dg h')));cases r with
 |none=>exact Ym h₁|some v=>
  refine Yc (dw h₁ (λ_ s₁' h₁'=>?_) λ_ _ h'=>dg h');refine Yc (dw h₁' (λ_ s₂ h₂=>Yc (dw h₂ (λok s₃ h₃=>?_) λ_ _ h'=>dg h')) λ_ _ h'=>dg h');cases ok with
  |false=>exact Ym ⟨rfl,h₃⟩|true=>exact Yc (Yc (dw h₃ (λx s₄ h₄=>Yc (dw h₄ (λ_ s₅ h₅=>Ym (Ym ⟨rfl,h₅⟩)) λ_ _ h'=>dg h')) λ_ _ h'=>dg h'))
end
theorem Qd{env:b7}{x:aj}{k:NameKind}:∀{names:List (aj×NameKind)},(names.map λ(n,k)=>if(k==NameKind.free&&env.scope.kind== .function&&env.kindOf n==Ya .cell)then(n,NameKind.cell)else(n,k)).lookup x=Ya k ->
  ∃k0,names.lookup x=Ya k0/\(k0=k\/(k0= .free/\k= .cell)):=by
 intro names
 induction names with
 |nil=>intro h;simp at h|cons y r ih=>
  intro h;obtain⟨n,k1⟩:=y;rw[Yy]at h;cases hx:x==n with
  | true=>
   refine⟨k1,by simp[gH,hx],?_⟩;by_cases hc:(k1==NameKind.free&&env.scope.kind== .function&&env.kindOf n==Ya .cell)=true
   .simp only[if_pos hc,gH,hx]at h;cases h;simp only[gq,beq_iff_eq]at hc;exact .inr ⟨hc.1.1,rfl⟩
   .simp only[if_neg hc,gH,hx]at h;cases h;exact .inl rfl
  | false=>
   have h':(r.map λ(n,k)=>if(k==NameKind.free&&env.scope.kind== .function&&env.kindOf n==Ya .cell)then(n,NameKind.cell)else(n,k)).lookup x=Ya k:=by
    by_cases hc:(k1==NameKind.free&&env.scope.kind== .function&&env.kindOf n==Ya .cell)=true
    .simp only[if_pos hc,gH,hx]at h;exact h
    .simp only[if_neg hc,gH,hx]at h;exact h
   obtain⟨k0,e,q⟩:=ih h';exact⟨k0,by simp[gH,hx,e],q⟩
theorem Zic{env:b7}{x:aj}:∀{names:List (aj×NameKind)},names.lookup x=Ya .free ->
  (names.map λ(n,k)=>if(k==NameKind.free&&env.scope.kind== .function&&env.kindOf n==Ya .cell)then(n,NameKind.cell)else(n,k)).lookup x=Ya .free\/
  (names.map λ(n,k)=>if(k==NameKind.free&&env.scope.kind== .function&&env.kindOf n==Ya .cell)then(n,NameKind.cell)else(n,k)).lookup x=Ya .cell:=by
 intro names
 induction names with
 |nil=>intro h;simp at h|cons y r ih=>
  intro h;obtain⟨n,k1⟩:=y;rw[Yy];cases hx:x==n with
  |true=>
   simp only[gH,hx]at h;cases h;by_cases hc:(NameKind.free==NameKind.free&&env.scope.kind== .function&&env.kindOf n==Ya .cell)=true
   .simp only[if_pos hc,gH,hx];exact .inr trivial
   .simp only[if_neg hc,gH,hx];exact .inl trivial
  |false=>
   simp only[gH,hx]at h;by_cases hc:(k1==NameKind.free&&env.scope.kind== .function&&env.kindOf n==Ya .cell)=true
   .simp only[if_pos hc,gH,hx];exact ih h
   .simp only[if_neg hc,gH,hx];exact ih h
section
variable {X:Cx} {pins:List (Yl×aq)} {σ:St} {H:Hp} {s:Yg} {scope:Scope} {N':List aj} {own:Nat} {fp:List Yl}
theorem Zmb(I:Inv X pins σ H s)(hk:scope.kind= .function)(hcell:∀y∈scope.names,y.2≠ .cell)(hfree:∀y∈scope.names,y.2= .free->X.env.kindOf y.1=Ya .cell\/X.env.kindOf y.1=Ya .free)(hN:N'.length=X.N.length+own)(hv:Qc X.N N' scope=true)(hfp:∀b∈fp,gK X pins H b)(hlt:∀b∈fp,b<s.heap.objs.size){h1:ao}{tk:Nat}(hns:h1.Ns s.heap.objs.size λ_=>Yi)(keep:∀b o,s.heap.get? b=Ya o->h1.get? b=Ya o):
  Inv (jK X scope N' s.heap.objs.size (iK X.env.cells scope.names []) s H fp) [] (σ++Yt own Yi) H {s with heap:=h1,toks:=tk}:=by
 have hc0:∀y∈scope.names,y.2= .free->∃c,X.env.cells.lookup y.1=Ya c:=λy hy e=>I.ok.has y.1 (hfree y hy e);have sub:∀x c,(iK X.env.cells scope.names []).lookup x=Ya c->X.env.cells.lookup x=Ya c:=λx c h=>by
  rcases Zlh scope.names [] hc0 h with q|q
  .simp at q
  .exact q
 have cellK:∀{c:Yl} {v:Option Yd},s.heap.IsCell c v->h1.IsCell c v:=λ⟨o,ho,hd⟩=>⟨o,keep _ o ho,hd⟩;refine⟨⟨I.ok.mod,hk,I.ok.glob,I.ok.blt,Yq _,λx y c h1 h2=>I.ok.inj x y c (sub x c h1) (sub y c h2),λx hx=>?_,λx c h=>?_,I.ok.hd,I.ok.frames,.inl rfl,λb hb=>⟨dM (hlt b hb),λx c h=>(hfp b hb).2.2.2.2.1 x c (sub x c h)⟩,
   I.bs,Ys I.ok.lM I.sz,λb o e hb=>?_,λb hb hz=>?_,I.stack,I.Fj⟩,rfl,I.bare,Un.kept keep,⟨_,hns,λi x v h1 h2 h3=>?_⟩,λx c h=>?_,I.hok.fresh (Yq _),λx c h=>I.iV x c (sub x c h),
  λp hp=>absurd (show p∈([]:List (Yl×aq))from hp) (by simp),I.hok.kept keep,?_⟩
 .have hx':(wV scope X.env).names.lookup x=Ya .cell\/(wV scope X.env).names.lookup x=Ya .free:=hx;have:scope.names.lookup x=Ya .free:=by
   rcases hx' with hx'|hx'
   .obtain⟨k0,e,q⟩:=Qd (names:=scope.names) hx';rcases q with q|⟨q,_⟩
    .subst q;exact absurd rfl (hcell _ (sG e))
    .rw[e,q]
   .obtain⟨k0,e,q⟩:=Qd (names:=scope.names) hx';rcases q with q|⟨_,q⟩
    .rw[e,q]
    .cases q
  exact Fx.mp (Zg3 scope.names [] (sG this))
 .cases h
 .obtain⟨_,_,_,q,_⟩:=hfp b hb;rcases q with q|q
  .exact I.ok.wF b o e q
  .exact absurd (Yw (Yv e) (Ys I.ok.lM q)) (u6 _)
 .have hz':b∈frs X.stack:=hz;obtain⟨_,q1,q2,_⟩:=hfp b hb;rcases Y5.mp (I.wD b hz')with e|e
  .exact q1 e
  .exact q2 e
 .have hi:i<σ.length:=by
   by_cases hi:i<σ.length
   .exact hi
   .rw[wX (jc hi),Gr]at h2;split at h2<;>cases h2
  rw[Y7 hi]at h2;have CQ:i<X.N.length:=by rw[←I.len];exact hi
  have hN':N'[i]?=Ya x:=h1;have vq:=jT.mp hv i (GC.mpr CQ);rw[hN']at vq;have h3':(wV scope X.env).names.lookup x=Ya .local\/(wV scope X.env).names.lookup x=Ya .cell\/(wV scope X.env).names.lookup x=Ya .free:=h3;have some_of:∃k0,scope.names.lookup x=Ya k0:=by rcases h3' with q|q|q<;>(obtain⟨k0,e,_⟩:=Qd (names:=scope.names) q;exact⟨k0,e⟩)
  obtain⟨k0,ek⟩:=some_of;simp only[ek,Option.isNone_some,Vq,gq,decide_eq_true_eq]at vq;obtain⟨vq1,vq2⟩:=vq;cases vq2;have hkind:=hfree (x,.free) (sG ek) rfl;obtain⟨m,hn,hl⟩:=I.loc;have Ag4:Hz X.env.scope x:=by
   rcases hkind with q|q
   .exact .inr (.inl q)
   .exact .inr (.inr q)
  obtain⟨u,ru,lk⟩:=hl i x v vq1 h2 Ag4;refine⟨u,ru,?_⟩;rcases lk with⟨kl,_⟩|⟨_,c,ec,ic⟩
  .rcases hkind with q|q<;>(rw[q]at kl;cases kl)
  .have hkk:(Gi scope (iK X.env.cells scope.names []) s.heap.objs.size X.env).kindOf x=Ya .cell\/(Gi scope (iK X.env.cells scope.names []) s.heap.objs.size X.env).kindOf x=Ya .free:=by
    rcases Zic (env:=X.env) ek with q|q
    .exact .inr q
    .exact .inl q
   obtain⟨c',ec'⟩:=Fx.mp (Zg3 (cells:=X.env.cells) scope.names [] (sG ek));have e2:=sub x c' ec';rw[ec]at e2;cases e2;exact .inr ⟨hkk,c,ec',cellK ic⟩
 .obtain⟨v,ic⟩:=I.cell x c (sub x c h);exact⟨v,cellK ic⟩
 .show(σ++Yt own Yi).length=N'.length;rw[Y4,Uz,I.len,hN]
theorem aY.grow{H:Hp}{σ:St}(E:aY K H ι env σ)(n:Nat):aY K H ι (env++Yt n Yi) (σ++Yt n Yi):=by
 refine⟨by simp[E.1],λi d h=>?_⟩;by_cases hi:i<env.length
 .rw[Y7 hi]at h;obtain⟨v,e,r⟩:=E.2 i d h;exact⟨v,by rw[Y7 (by rw[←E.1];exact hi)];exact e,r⟩
 .rw[wX (jc hi),Gr]at h;split at h<;>cases h
end
section
structure Cb where
 Y:Cx
 fp:List Yl
 tn:Nat->ao->Prop
 bC:gO
 H2:Hp
 ι2:List Yl
 Q:VK
 g:G3
 ts:List E3
 f:E3
 nM:Nat
 acc:Yl
inductive Qe(P:Cb)(n:Nat)(s':Yg):Prop
 | mk (k:Nat) (σ5:St) (H5:Hp) (ι5:List Yl) (M5:Store) (KY:Zt) (I5:Inv P.Y [] σ5 H5 s') (jW:P.tn k s'.heap) (tR:∀b∈P.fp,H5 b=Yi) (hn:P.bC.items.length-k=n) (hk:k<=P.bC.items.length)
   (x5:Ext P.Y.K P.H2 P.ι2 H5 ι5) (S5:Zu P.Y.K H5 ι5 M5) (E5:aY P.Y.K H5 ι5 KY σ5) (hι:ι5[P.nM]?=Ya P.acc) (h5:Zr P.Y.K H5 ι5 P.Q (fZ P.bC P.g P.ts P.f P.nM (P.bC.items.drop k) KY M5))
def Jp(P:Cb)(n:Nat)(s':Yg):Prop:=∃m,m<n/\Qe P m s'
section
noncomputable local instance (priority:=100000) Ahg (p:Prop):Decidable p:=AgM p
noncomputable def Jq(P:Cb)(k:Nat)(env:Zt)(e:D)(M2:Store):R3 D:=match M2[P.nM]? with
 |some (.lst x)=>if x.length<SZ then fZ P.bC P.g P.ts P.f P.nM (P.bC.items.drop (k+1)) env (M2.set P.nM (.lst (x++[e])))else .bad|_=>.bad
noncomputable def Qf(P:Cb)(k:Nat)(env:Zt)(b:Bool)(M1:Store):R3 D:=if b then(P.f env M1).bind (Jq P k env)else fZ P.bC P.g P.ts P.f P.nM (P.bC.items.drop (k+1)) env M1
end
def cbF(P:Cb)(n:Nat)(xv:Yd)(s:Yg):Prop:=Y1 (Y9 P.Y.prog P.Y.w) P.Y.A (call (.builtin "list.append") [.ref P.acc,xv]) (λ_ s'=>Jp P n s') P.Y.xe s
def cbO(P:Cb)(elt:Expr)(n:Nat)(ok:Bool)(s:Yg):Prop:=if ok=true then Y1 (Y9 P.Y.prog P.Y.w) P.Y.A (aA elt P.Y.env) (cbF P n) P.Y.xe s else Jp P n s
def cbS(P:Cb)(elt:Expr)(ifs:List Expr)(n:Nat)(s:Yg):Prop:=Y1 (Y9 P.Y.prog P.Y.w) P.Y.A (forIn ifs true λc r=>if r=true then do let ok ←isTrue c P.Y.env (aA c P.Y.env);pure (ForInStep.yield ok)else pure (ForInStep.yield r)) (cbO P elt n) P.Y.xe s
def cbA(P:Cb)(tg elt:Expr)(ifs:List Expr)(n:Nat)(u:Yd)(s:Yg):Prop:=Y1 (Y9 P.Y.prog P.Y.w) P.Y.A (lw tg P.Y.env u) (λ_=>cbS P elt ifs n) P.Y.xe s
def cbN(P:Cb)(tg elt:Expr)(ifs:List Expr)(it:Yl)(n:Nat)(F:Yg->Prop)(r:Option Yd)(s:Yg):Prop:=match r with
 |none=>F s|some v=>Y1 (Y9 P.Y.prog P.Y.w) P.Y.A (BV tg (.ref it) v) (λ_=>cbA P tg elt ifs n v) P.Y.xe s
variable {P:Cb} {tg elt:Expr} {ifs:List Expr} {J:It} {it:Yl} {k:Nat} {h7:ao} {σ:St} {H H':Hp} {s:Yg} {ι:List Yl} {M M1:Store} {env:Zt}
theorem ZkU(T:Turn P.Y.prog P.Y.w P.Y.K tg J P.fp it P.tn)(j6:P.tn (k+1) h7)(hlt:k<P.bC.items.length)(I':Inv P.Y ([]++vm P.fp h7) σ H s)(x:Ext P.Y.K P.H2 P.ι2 H ι)(S:Zu P.Y.K H ι M)(E:aY P.Y.K H ι env σ)(hι:ι[P.nM]?=Ya P.acc)(h:Zr P.Y.K H ι P.Q (fZ P.bC P.g P.ts P.f P.nM (P.bC.items.drop (k+1)) env M)):Jp P (P.bC.items.length-k) s:=⟨P.bC.items.length-(k+1),lD 2 0x30113c2012a1c0c21 T1 (p8 (lB 1 6991908881 T1 hlt)) (qp _ _),⟨k+1,σ,H,ι,M,env,I'.Fg,T.keep _ _ _ j6 λb hb o e=>(I'.pin (b,o) (mW _ (mW _ (H_ hb e)))).1,λb hb=>(T.obj _ _ j6 b hb).elim λo e=>(I'.pin (b,o) (mW _ (mW _ (H_ hb e.1)))).2.1,rfl,hlt,x,S,E,hι,h⟩⟩
theorem ZsK:Qf P k env true M=(P.f env M).bind (Jq P k env):=if_pos rfl
theorem Ztw:Qf P k env false M=fZ P.bC P.g P.ts P.f P.nM (P.bC.items.drop (k+1)) env M:=if_neg (by decide)
theorem Zr.iff{H:Hp}{ι:List Yl}{c:Prop}{dc:Decidable c}(h:Zr K H ι Q (if c then r else .bad)):c/\Zr K H ι Q r:=by
 by_cases hc:c
 .rw[if_pos hc]at h;exact⟨hc,h⟩
 .rw[if_neg hc]at h;exact h.elim
theorem ZqJ{xv:Yd}(T:Turn P.Y.prog P.Y.w P.Y.K tg J P.fp it P.tn)(j6:P.tn (k+1) h7)(hlt:k<P.bC.items.length)(I':Inv P.Y ([]++vm P.fp h7) σ H s)(r:RelV v xv)(x:Ext P.Y.K P.H2 P.ι2 H ι)(S:Zu P.Y.K H ι M)(E:aY P.Y.K H ι env σ)(rd:Rep P.Y.K H ι d v)(hι:ι[P.nM]?=Ya P.acc)(hm:M[P.nM]?=Ya (.lst xs))(hz:xs.length<SZ)(h:Zr P.Y.K H ι P.Q (fZ P.bC P.g P.ts P.f P.nM (P.bC.items.drop (k+1)) env (M.set P.nM (.lst (xs++[d]))))):
  cbF P (P.bC.items.length-k) xv s:=by
 obtain⟨vs,ev,rvs⟩:=S.obj _ _ _ hm hι;obtain⟨x11,S11⟩:=S.KR (.inr (.inl ⟨_,ev⟩)) hι (rvs.append (Zo.cons rd Zo.nil));refine aC (Q':=λ_ s'=>Jp P (P.bC.items.length-k) s') (X8 _ s σ H (.ref P.acc) [v] (.ref P.acc) [xv] (λ_ H'=>H'=upd H P.acc (.lst (vs++[v]))) I' rfl (.cons r .nil) ⟨_,vs,v,rfl,rfl,ev,by rw[rvs.length];exact Yw hz nP,rfl⟩) λ_ s11 ak=>?_;obtain⟨_,H11,I11,_,eH⟩:=ak;rw[eH]at I11;exact ZkU T j6 hlt I11 (x.trans x11) S11 (E.mono x11) (x11.pre _ _ hι) (h.up x11)
theorem Zrj(T:Turn P.Y.prog P.Y.w P.Y.K tg J P.fp it P.tn)(helt:C3 P.Y elt P.f)(j6:P.tn (k+1) h7)(hlt:k<P.bC.items.length)(I':Inv P.Y ([]++vm P.fp h7) σ H s)(x:Ext P.Y.K P.H2 P.ι2 H ι)(S:Zu P.Y.K H ι M)(E:aY P.Y.K H ι env σ)(hι:ι[P.nM]?=Ya P.acc)(h:Zr P.Y.K H ι P.Q ((P.f env M).bind (Jq P k env))):
  Y1 (Y9 P.Y.prog P.Y.w) P.Y.A (aA elt P.Y.env) (cbF P (P.bC.items.length-k)) P.Y.xe s:=by
 obtain⟨d,M10,e10,h10⟩:=Zr.bind h;refine aC (Q':=cbF P (P.bC.items.length-k)) (helt _ s σ H (λv H'=>∃Jr,Ext P.Y.K H ι H' Jr/\Zu P.Y.K H' Jr M10/\Rep P.Y.K H' Jr d v) I' ⟨ι,M,env,S,E,by rw[e10];exactλv H' ι' x' S' r'=>⟨ι',x',S',r'⟩⟩) λxv s10 ak=>?_;obtain⟨v,H10,I10,r10,Jr,x10,S10,rd⟩:=ak;unfold Jq at h10;cases hm:M10[P.nM]? with
 |none=>rw[hm]at h10;exact h10.elim|some o=>
  rw[hm]at h10;cases o with
  |dct _=>exact h10.elim|cO _=>exact h10.elim|ins _ _=>exact h10.elim|lst xs=>exact ZqJ T j6 hlt I10 r10 (x.trans x10) S10 (E.mono x10) rd (x10.pre _ _ hι) hm (Zr.iff h10).1 ((Zr.iff h10).2.up x10)
theorem Zqy(T:Turn P.Y.prog P.Y.w P.Y.K tg J P.fp it P.tn)(hts:ud P.Y ifs P.ts)(helt:C3 P.Y elt P.f)(j6:P.tn (k+1) h7)(hlt:k<P.bC.items.length)(I':Inv P.Y ([]++vm P.fp h7) σ H s)(x:Ext P.Y.K P.H2 P.ι2 H ι)(S:Zu P.Y.K H ι M)(E:aY P.Y.K H ι env σ)(hι:ι[P.nM]?=Ya P.acc)(h:Zr P.Y.K H ι P.Q ((vI P.ts env M).bind (Qf P k env))):
  cbS P elt ifs (P.bC.items.length-k) s:=by
 obtain⟨b,M9,e9,h9⟩:=Zr.bind h;refine aC (Q':=cbO P elt (P.bC.items.length-k)) (hts _ s σ H (λb' H'=>b'=b/\∃ι9,Ext P.Y.K H ι H' ι9/\Zu P.Y.K H' ι9 M9) I' ⟨ι,M,env,S,E,by rw[e9];exactλH' ι' x' S'=>⟨rfl,ι',x',S'⟩⟩) λb' s9 ak=>?_;obtain⟨H9,I9,eb,ι9,x9,S9⟩:=ak;rw[←eb]at h9;cases b' with
 |false=>exact ZkU T j6 hlt I9 (x.trans x9) S9 (E.mono x9) (x9.pre _ _ hι) (Zr.up x9 (Ztw▸h9))|true=>exact Zrj T helt j6 hlt I9 (x.trans x9) S9 (E.mono x9) (x9.pre _ _ hι) (Zr.up x9 (ZsK▸h9))
theorem Zs3(T:Turn P.Y.prog P.Y.w P.Y.K tg J P.fp it P.tn)(hc:P.Y.calm=true)(hfp:∀{H':Hp},(∀b∈P.fp,H' b=Yi)->∀b∈P.fp,gK P.Y [] H' b)(hg:CG P.Y tg P.g)(hts:ud P.Y ifs P.ts)(helt:C3 P.Y elt P.f)(hlt:k<P.bC.items.length)(I5:Inv P.Y [] σ H s)(jW:P.tn k s.heap)(tR:∀b∈P.fp,H b=Yi)(x:Ext P.Y.K P.H2 P.ι2 H ι)(S:Zu P.Y.K H ι M)(E:aY P.Y.K H ι env σ)(hι:ι[P.nM]?=Ya P.acc)(ok:oX P.Y.K P.H2 P.ι2 P.bC J)(h:Zr P.Y.K H ι P.Q (fZ P.bC P.g P.ts P.f P.nM (P.bC.items[k]::P.bC.items.drop (k+1)) env M))(F:Yg->Prop):
  Y1 (Y9 P.Y.prog P.Y.w) P.Y.A (oE (.ref it)) (cbN P tg elt ifs it (P.bC.items.length-k) F) P.Y.xe s:=by
 obtain⟨lk,h⟩:=Zr.iff h;obtain⟨go,yl⟩:=(ok k H ι M x S lk).1 _ (lG hlt);cases eg:P.g P.bC.items[k] env with
 |none=>rw[eg]at h;exact h.elim|some Tf=>rw[eg]at h;refine aC (T.item P.Y rfl rfl rfl hc k [] s σ H P.Y.xe I5 (hfp tR) jW go) λr s6 ak=>?_;obtain⟨u,hr,h6⟩:=ak;rw[hr];refine aC (Q':=λ_=>cbA P tg elt ifs (P.bC.items.length-k) u) h6 λ_ s7 ak=>?_;obtain⟨y,H7,I7,r7,y7,j6,fr7⟩:=ak;obtain⟨e7,rx⟩:=yl y H7 y7;rw[e7]at I7 fr7;refine aC (Q':=λ_=>cbS P elt ifs (P.bC.items.length-k)) (hg _ s7 σ H y u (λσ' H'=>H'=H/\aY P.Y.K H ι Tf σ') (I7.pinned (hfp fr7) (T.obj _ _ j6)) r7 ⟨ι,M,env,_,Tf,S,E,rx,eg,λσ' E'=>⟨rfl,E'⟩⟩) λ_ s8 ak=>?_;obtain⟨σ8,H8,I8,e8,E8⟩:=ak;rw[e8]at I8;exact Zqy T hts helt j6 hlt I8 x S E8 hι h
theorem Zpg(T:Turn P.Y.prog P.Y.w P.Y.K tg J P.fp it P.tn)(hc:P.Y.calm=true)(hfp:∀{H':Hp},(∀b∈P.fp,H' b=Yi)->∀b∈P.fp,gK P.Y [] H' b)(I5:Inv P.Y [] σ H s)(jW:P.tn P.bC.items.length s.heap)(tR:∀b∈P.fp,H b=Yi)(x:Ext P.Y.K P.H2 P.ι2 H ι)(S:Zu P.Y.K H ι M)(hι:ι[P.nM]?=Ya P.acc)(ok:oX P.Y.K P.H2 P.ι2 P.bC J)(h:Zr P.Y.K H ι P.Q (fZ P.bC P.g P.ts P.f P.nM [] env M)){F:Yg->Prop}(hF:∀s6,Inv P.Y [] σ H s6->P.Q (.ref P.acc) H->F s6):
  Y1 (Y9 P.Y.prog P.Y.w) P.Y.A (oE (.ref it)) (cbN P tg elt ifs it n F) P.Y.xe s:=by
 obtain⟨lk,h⟩:=Zr.iff h;refine aC (T.done P.Y rfl rfl rfl hc _ [] s σ H P.Y.xe I5 (hfp tR) jW ((ok _ H ι M x S lk).2 rfl)) λr s6 ak=>?_;rw[ak.1];exact hF s6 ak.2 (h _ H ι Ext.refl S (Rep.ref hι))
end
variable{s:Yg}{fp:List Yl}{it:Yl}{pins:List (Yl×aq)}{E:Yd->Yg->Prop}
section
variable {X:Cx} {elt tg iter:Expr} {ifs:List Expr} {scope:Scope} {pos:aF} {i:I3} {own:Nat} {g:G3} {ts:List E3} {f:E3} {N':List aj}
structure Eb(X:Cx)(scope:Scope)(N':List aj)(own:Nat):Prop where
 kind:scope.kind= .function
 cell:∀y∈scope.names,y.2≠ .cell
 free:∀y∈scope.names,y.2= .free->X.env.kindOf y.1=Ya .cell\/X.env.kindOf y.1=Ya .free
 names:∀y∈scope.names,y.2= .local->scope.names.lookup y.1=Ya .local
 len:N'.length=X.N.length+own
 vis:Qc X.N N' scope=true
theorem ZoU{P:Cb}{J:It}{F:Yg->Prop}(T:Turn P.Y.prog P.Y.w P.Y.K tg J P.fp it P.tn)(hc:P.Y.calm=true)(hfp:∀{H':Hp},(∀b∈P.fp,H' b=Yi)->∀b∈P.fp,gK P.Y [] H' b)(hb:CG P.Y tg P.g/\ud P.Y ifs P.ts/\C3 P.Y elt P.f)(ok:oX P.Y.K P.H2 P.ι2 P.bC J)(z:Qe P n s)(fin:∀σ H s',Inv P.Y [] σ H s'->P.Q (.ref P.acc) H->F s'):Y1 (Y9 P.Y.prog P.Y.w) P.Y.A (oE (.ref it)) (cbN P tg elt ifs it n F) P.Y.xe s:=by
 obtain⟨k,σ5,H5,ι5,M5,KY,I5,jW,tR,hn,hk,x5,S5,E5,hι,h5⟩:=z;by_cases hlt:k<P.bC.items.length
 .rw[Cg hlt]at h5;exact hn▸Zs3 T hc hfp hb.1 hb.2.1 hb.2.2 hlt I5 jW tR x5 S5 E5 hι ok h5 _
 .rw[eZ hk (jc hlt)]at jW h5;rw[Cj]at h5;exact Zpg T hc hfp I5 jW tR x5 S5 hι ok h5 λs6 I6 q=>fin σ5 H5 s6 I6 q
theorem Zjg{s3:Yg}{H2 H3:Hp}{ι2 ι3:List Yl}{M3:Store}{nM:Nat}{D:Yl}{tn:Nat->ao->Prop}{J:It}{bC:gO}(O:Eb X scope N' own)(hc:X.calm=true)(hb:∀C cl s H ex,CG (jK X scope N' C cl s H ex) tg g/\ud (jK X scope N' C cl s H ex) ifs ts/\C3 (jK X scope N' C cl s H ex) elt f)(T:Turn X.prog X.w X.K tg J fp it tn)(st3:tn 0 s3.heap)(Bw:∀b∈fp,b<s3.heap.objs.size)(I3:Inv X pins σ H3 s3)(wK:∀b∈fp,gK X pins H3 b)(x3:Ext X.K H2 ι2 H3 ι3)(S3:Zu X.K H3 ι3 M3)(E2:aY X.K H3 ι3 env σ)(ok:oX X.K H2 ι2 bC J)(h:Zr X.K H3 ι3 Q (fZ bC g ts f nM bC.items (env++Yt own Yi) M3))(hι:ι3[nM]?=Ya D)(RR:Yd->Yl->sS->Yg->Prop)(fin:∀(acc C:Yl) (s':Yg) (m:aj->Option Yd) (H':Hp),s'.heap.Ns C m->gK X pins H' C->Inv X pins σ H' s'->Q (.ref acc) H'->RR (.ref acc) C (.ok .next) s'):
  Y1 (Y9 X.prog X.w) X.A (newFunctionEnv scope X.env.globals (iK X.env.cells scope.names []) [] X.env.qual Yi .none (Ya X.env)) (λcenv s₄=>mU (Y9 X.prog X.w) X.A (.compStart (.ListComp elt [⟨tg,iter,ifs,0⟩] scope pos) 0 (.ref it) (.ref D) {cenv with scope:=wV scope X.env}) (RR (.ref D) cenv.locals) s₄) E s3:=by
 refine wpAny_newFunctionEnv O.cell (by intro y hy;cases hy) (λh4 hns hsb=>?_) O.kind;have S8:∀b o,s3.heap.get? b=Ya o->h4.get? b=Ya o:=λb o e=>hsb.extBut b o (dM (Yv e)) (Yh _ e);have I4:=Zmb (own:=own) (N':=N') (tk:=s3.toks+([]:List (aj×Yd)).length) I3 O.kind O.cell O.free O.len O.vis wK Bw hns S8;have Js:tn 0 h4:=T.keep _ _ _ st3 λb hb o e=>S8 b o e;have L:=Zik (prog:=X.prog) (w:=X.w) (A:=X.A) (R:=RR (.ref D) s3.heap.objs.size) (scope:=scope) (pos:=pos) (iter:=iter) (elt:=elt) (target:=tg) (ifs:=ifs) (env:=Gi scope (iK X.env.cells scope.names []) s3.heap.objs.size X.env) (Qe ⟨jK X scope N' s3.heap.objs.size (iK X.env.cells scope.names []) s3 H3 fp,fp,tn,bC,H2,ι2,Q,g,ts,f,nM,D⟩) (λn s5 z=>ZoU (P:=⟨jK X scope N' s3.heap.objs.size (iK X.env.cells scope.names []) s3 H3 fp,fp,tn,bC,H2,ι2,Q,g,ts,f,nM,D⟩) T hc
  (λhn b hb=>⟨hn b hb,dM (Bw b hb),λhz=>I4.ok.wG b hb hz,.inl hb,λx c hx=>(I4.ok.Df b hb).2 x c hx,λp hp=>absurd (show p∈([]:List (Yl×aq))from hp) (by simp)⟩)
  (hb _ _ _ _ _) ok z
  λσ' H' s6 I6 q=>I6.loc.elim λm6 hn6=>fin _ _ s6 m6 H' hn6.1 (I3.wH (Yq _) I6.free) (I3.call' (ch:=fp) I6.os I6.base I6.hok I6.bare λb hb=>⟨(wK b hb).2.2.2.1,(wK b hb).2.1,(wK b hb).2.2.2.2.1,(wK b hb).2.2.2.2.2⟩) q) _
  ⟨0,_,_,_,_,_,I4,Js,λb hb=>(wK b hb).1,rfl,jy _,x3,S3,E2.grow own,hι,h⟩
 exact codeAny_compStart_list L (T.self _ 0 _ _ _ Js L)
theorem Zf8{s2:Yg}{H2:Hp}{ι2:List Yl}{M2:Store}{tn:Nat->ao->Prop}{J:It}{bC:gO}(O:Eb X scope N' own)(hc:X.calm=true)(hb:∀C cl s H ex,CG (jK X scope N' C cl s H ex) tg g/\ud (jK X scope N' C cl s H ex) ifs ts/\C3 (jK X scope N' C cl s H ex) elt f)(I2:Inv X pins σ H2 s2)(T:Turn X.prog X.w X.K tg J fp it tn)(st0:tn 0 s2.heap)(hfp:∀b∈fp,gK X pins H2 b)(S2:Zu X.K H2 ι2 M2)(E2:aY X.K H2 ι2 env σ)(ok:oX X.K H2 ι2 bC J)(h:Zr X.K H2 ι2 Q (fZ bC g ts f M2.length bC.items (env++Yt own Yi) (M2++[.lst []])))(RR:Yd->Yl->sS->Yg->Prop)(fin:∀(acc C:Yl) (s':Yg) (m:aj->Option Yd) (H':Hp),s'.heap.Ns C m->gK X pins H' C->Inv X pins σ H' s'->Q (.ref acc) H'->RR (.ref acc) C (.ok .next) s'):
  Y1 (Y9 X.prog X.w) X.A (newList []) (λacc s₃=>Y1 (Y9 X.prog X.w) X.A (newFunctionEnv scope X.env.globals (iK X.env.cells scope.names []) [] X.env.qual Yi .none (Ya X.env)) (λcenv s₄=>mU (Y9 X.prog X.w) X.A (.compStart (.ListComp elt [⟨tg,iter,ifs,0⟩] scope pos) 0 (.ref it) acc {cenv with scope:=wV scope X.env}) (RR acc cenv.locals) s₄) E s₃) E s2:=by
 refine uN ?_;have hD:H2 s2.heap.objs.size=Yi:=I2.hok.fresh (Yq _);obtain⟨x3,S3,r3⟩:=S2.lst hD (Zo.nil (K:=X.K) (H:=H2) (ι:=ι2));have I3:Inv X pins σ (upd H2 s2.heap.objs.size (.lst [])) {s2 with heap:=s2.heap.push {cls:=.type "list",data:=.seq ([]:List Yd).toArray}}:=I2.laid (t':=s2.toks) (λb u e=>Yh _ e) (Yq _) ⟨jy _,[],0,.nil,Yu _ rfl⟩;have Fq:∀b o,s2.heap.get? b=Ya o->(s2.heap.push {cls:=.type "list",data:=.seq ([]:List Yd).toArray}).get? b=Ya o:=λb o e=>Yh _ e;generalize hs3:({s2 with heap:=s2.heap.push {cls:=.type "list",data:=.seq ([]:List Yd).toArray}}:Yg)=s3 at I3 ⊢;have Fq:∀b o,s2.heap.get? b=Ya o->s3.heap.get? b=Ya o:=by rw[←hs3];exact Fq
 have lt2:∀b∈fp,b<s2.heap.objs.size:=λb hb=>(T.obj _ _ st0 b hb).elim λo e=>Yv e.1;have Bw:∀b∈fp,b<s3.heap.objs.size:=λb hb=>(T.obj _ _ st0 b hb).elim λo e=>Yv (Fq b o e.1);exact Zjg O hc hb (T:=T) (st3:=T.keep _ _ _ st0 λb hb o e=>Fq b o e) (Bw:=Bw) (I3:=I3) (wK:=λb hb=>⟨(Zk (dM (lt2 b hb))).trans (hfp b hb).1,(hfp b hb).2⟩) (x3:=x3) (S3:=S3) (E2:=E2.mono x3) (ok:=ok) (h:=h.up x3) (hι:=by rw[←S2.len];simp) RR fin
theorem Ec(O:Eb X scope N' own)(DY:X.xe=λ_ _=>False)(hc:X.calm=true)(hi:CI X tg iter i)(hb:∀C cl s H ex,CG (jK X scope N' C cl s H ex) tg g/\ud (jK X scope N' C cl s H ex) ifs ts/\C3 (jK X scope N' C cl s H ex) elt f)(hs:∀x,wQ iter X.env x=pure x:=by intro _;rfl):C3 X (.ListComp elt [⟨tg,iter,ifs,0⟩] scope pos) (dO i own g ts f):=by intro pins s σ H Q I h;obtain⟨ι,M,env,S,E,h⟩:=h;obtain⟨bC,M1,e1,h⟩:=Zr.bind h;have hc0:∀y∈scope.names,y.2= .free->∃c,X.env.cells.lookup y.1=Ya c:=λy hy e=>I.ok.has y.1 (O.free y hy e);rw[eval_ListComp];refine T9 (use:=Yi) rfl hs (Zd0 hc0) O.kind O.names ?_;refine aC (hi pins s σ H (λJ H'=>∃ι',Ext X.K H ι H' ι'/\Zu X.K H' ι' M1/\oX X.K H' ι' bC J) I ⟨ι,M,env,S,E,by rw[e1];exactλJ H' ι' x S' o=>⟨ι',x,S',o⟩⟩) λv s1 h1=>aC h1 λitv s2 h2=>?_;obtain⟨it,fp,tn,J,H2,rfl,I2,T,st2,f2,ι2,x2,S2,ok⟩:=h2;refine Zf8 (own:=own) (g:=g) (ts:=ts) (f:=f) O hc hb I2 T st2 f2 S2 (E.mono x2) ok (h.up x2) (λacc C=>compPost (Y9 X.prog X.w) X.A X.xe Yi (EP X pins σ Q) acc C) ?_;intro acc C s' m H' hn hf I' hq;obtain⟨f0,f1,f2',f3,f4,f5⟩:=hf;exact⟨m,hn,λh' sb=>⟨.ref acc,H',I'.turned (t':=s'.toks) (λb o hb e=>(sb.2 b hb).trans e) f0 f1 f3 f4 f5,rfl,hq⟩⟩
theorem Ziv(j:Nat){x:aj}{pos' spos:aF}(O:Eb X scope N' own)(DY:X.xe=λ_ _=>False)(hc:X.calm=true)(hN:X.N.Nodup)(hi:CI X tg iter i)(hb:∀C cl s H ex,CG (jK X scope N' C cl s H ex) tg g/\ud (jK X scope N' C cl s H ex) ifs ts/\C3 (jK X scope N' C cl s H ex) elt f)(hj:X.N[j]?=Ya x:=by rfl)(hx:Loc X.env.scope x:=by first|exact Or.inl rfl|exact Or.inr rfl)(hf:X.fn x=true\/X.env.scope.names.lookup x=Ya .local:=by first|exact .inl rfl|exact .inr rfl)(hsw:sJ (.ListComp elt [⟨tg,iter,ifs,0⟩] scope pos) (Ya (.Name x pos')) spos.line X.env=pure true:=by rfl)(hs:∀x,wQ iter X.env x=pure x:=by intro _;rfl):CS X (.Assign [.Name x pos'] (.ListComp elt [⟨tg,iter,ifs,0⟩] scope pos) spos) (aP j (dO i own g ts f)):=by
 intro pins s σ H D I h;obtain⟨ι,M,env,S,E,h⟩:=h;have h0:Zr X.K H ι (λv H'=>D.nx (σ.set j (Ya v)) H') (dO i own g ts f env M):=by
  unfold aP at h;cases q:dO i own g ts f env M with
  |ok d M1=>rw[q]at h;exactλv H1 ι1 x1 S1 r1=>h _ H1 ι1 x1 S1 ((E.mono x1).set j r1)|exc _ _=>rw[q]at h;exact h.elim|bad=>rw[q]at h;exact h.elim
 obtain⟨bC,M1,e1,h1⟩:=Zr.bind h0;have hc0:∀y∈scope.names,y.2= .free->∃c,X.env.cells.lookup y.1=Ya c:=λy hy e=>I.ok.has y.1 (O.free y hy e);rw[exec_Assign_Name_used _ _ _ _ hsw];refine Yc (pZ (Yc ?_));show Y1 _ X.A (do let _ ←comprehension (.ListComp elt [⟨tg,iter,ifs,0⟩] scope pos) scope X.env _ (newList []) false (aA iter X.env) (Ya (lw (.Name x pos') X.env))) _ _ s;refine Yc (dw (T9 (use:=Ya (lw (.Name x pos') X.env)) (Q:=λ_ s'=>SP X pins D .next s') rfl hs (Zd0 hc0) O.kind O.names ?_) (λ_ s' hq=>Ym (Ym hq)) λ_ _ e=>e);refine aC (hi pins s σ H (λJ H'=>∃ι',Ext X.K H ι H' ι'/\Zu X.K H' ι' M1/\oX X.K H' ι' bC J) I ⟨ι,M,env,S,E,by rw[e1];exactλJ H' ι' x S' o=>⟨ι',x,S',o⟩⟩) λv s1 h1'=>aC h1' λitv s2 h2=>?_;obtain⟨it,fp,tn,J,H2,rfl,I2,T,st2,f2,ι2,x2,S2,ok⟩:=h2;refine Zf8 (own:=own) (g:=g) (ts:=ts) (f:=f) O hc hb I2 T st2 f2 S2 (E.mono x2) ok (h1.up x2) (λacc C=>compPost (Y9 X.prog X.w) X.A X.xe (Ya (lw (.Name x pos') X.env)) (λ_ s'=>SP X pins D .next s') acc C) ?_;intro acc C s' m H' hn hfC I' hq;obtain⟨f0,f1,f2',f3,f4,f5⟩:=hfC;show Y1 _ X.A (lw (.Name x pos') X.env (.ref acc)) _ _ s';refine Ug (W_ I' hN hj hx (show RelV (.ref acc) (.ref acc)from rfl) (λs'' I'' ⟨a,sb,ha⟩=>?_) hf);have hCa:C≠a:=by
  rcases ha with rfl|ha
  .exact f1
  .exact cP (f4 x a ha)
 exact⟨m,hn.sameBut sb hCa,λh' sb'=>⟨_,H',I''.turned (t':=s''.toks) (λb o hb e=>(sb'.2 b hb).trans e) f0 f1 f3 f4 f5,hq⟩⟩
end
theorem j7{k:Nat}(r:bZ k A):A.units+80<fV:=by have:=r.un;exact lC 1 0x2502b0c12c82b110d0cc11 T1 this
noncomputable def Its(x:aj):It:=⟨λi _=>i<x.cps.size,λi H y H'=>H'=H/\∃c,x.cps[i]?=Ya c/\y= .str ⟨#[c]⟩,λi _=>i=x.cps.size⟩
theorem Zmc{P:Yz}{w:aD}{tg:Expr}{x:aj}{t:dX}{ty:String}(W:∀A':aU,A'.handled=Yi->Walks P w A' it [it] [it] x.cps.size (SignAt x) (λi h=>h.IsStrIter it ty x t i))(hs:∀(A:aU) (i:Nat) (s:Yg) (Q:Yd->Yg->Prop) (E:Yd->Yg->Prop),s.heap.IsStrIter it ty x t i->Q (.ref it) s->Y1 (Y9 P w) A (yX (.ref it)) Q E s)(hty:["enumerate","zip","dict_itemiterator","dict_reverseitemiterator","odict_iterator","itertools.zip_longest","itertools.pairwise"].contains ty=false):Turn P w K tg (Its x) [it] it (λi h=>h.IsStrIter it ty x t i)where
 mem:=by simp
 obj:=λi h st b hb=>by
  have e:b=it:=by simpa using hb
  subst e;obtain⟨o,e,c,d⟩:=st;exact⟨o,e,λv z=>by rw[d]at z;cases z⟩
 keep:=λi h h' st k=>let⟨o,e,r⟩:=st;⟨o,k it (by simp) o e,r⟩
 item:=by intro X hP hw hK hc i pins s σ H E I hf st hg;subst hP hw hK;obtain⟨f0,f1,f2,f3,f4,f5⟩:=hf it (by simp);refine(W X.A (I.ok.hd hc)).item i s _ _ hg st λv h' tk hv st' kk=>?_;obtain⟨c,u,hx,rfl⟩:=hv;have I1:Inv X pins σ H {s with heap:=h',toks:=tk}:=I.turned (λb o hb e=>kk b o (by simpa using hb) e) f0 f1 f3 f4 f5;obtain⟨o,e,cc,d⟩:=id st';exact⟨_,rfl,HX (s:={s with heap:=h',toks:=tk}) e cc d hty ⟨.str ⟨#[c]⟩,H,I1,⟨u,rfl⟩,⟨rfl,c,hx,rfl⟩,st',λb hb=>(hf b hb).1⟩⟩
 done:=by intro X hP hw hK hc i pins s σ H E I hf st hg;subst hP hw hK;obtain⟨f0,f1,f2,f3,f4,f5⟩:=hf it (by simp);have e:i=x.cps.size:=hg;subst e;exact(W X.A (I.ok.hd hc)).done s _ _ st λh' tk kk=>⟨rfl,I.turned (λb o hb e=>kk b o (by simpa using hb) e) f0 f1 f3 f4 f5⟩
 self:=hs
section
variable {X:Cx} {tg e o:Expr} {es:List Expr} {pos p apos cpos:aF} {f:E3} {gl:bW}
theorem Zrv(h:C3 X e f):PI X tg e (λσ H R=>oV X.K f σ H λx H1=>∃z:aj,x= .str z/\z.length<=SZ/\∀J,(∀ι,oX X.K H1 ι ⟨z.cps.toList.map λc=>.str [c],Yi⟩ J)->R J H1):=by
 intro pins s σ H R I hw;refine aC (h pins s σ H _ I hw) λv s1 ak=>?_;obtain⟨x,H1,I1,r1,z,ex,hz,q⟩:=ak;subst ex;obtain⟨t,rfl⟩:=r1;have key:∀(ty:String) (o:aq),(∀A':aU,A'.handled=Yi->Walks X.prog X.w A' s1.heap.objs.size [s1.heap.objs.size] [s1.heap.objs.size] z.cps.size (SignAt z) (λi h=>h.IsStrIter s1.heap.objs.size ty z t i)) ->
   (∀(A:aU) (i:Nat) (s:Yg) (Q:Yd->Yg->Prop) (E:Yd->Yg->Prop),s.heap.IsStrIter s1.heap.objs.size ty z t i->Q (.ref s1.heap.objs.size) s->Y1 (Y9 X.prog X.w) A (yX (.ref s1.heap.objs.size)) Q E s) ->
   ["enumerate","zip","dict_itemiterator","dict_reverseitemiterator","odict_iterator","itertools.zip_longest","itertools.pairwise"].contains ty=false->(s1.heap.push o).IsStrIter s1.heap.objs.size ty z t 0 ->
   PIE X pins σ tg R (.ref s1.heap.objs.size) {s1 with heap:=s1.heap.push o}:=by
  intro ty o W hs hty st;refine⟨s1.heap.objs.size,[s1.heap.objs.size],_,_,H1,rfl,I1.kept (t':=s1.toks) λb o e=>Yh _ e,Zmc W hs hty,st,λb hb=>?_,q _ λι=>?_⟩
  .have e:b=s1.heap.objs.size:=by simpa using hb
   subst e;exact I1.wH (Yq _) (I1.hok.fresh (Yq _))
  .intro i H2 ι2 M2 x S _;refine⟨λd hd=>?_,λhl=>?_⟩
   .rw[gn]at hd;cases hq:z.cps.toList[i]? with
    |none=>rw[hq]at hd;cases hd|some c=>
     rw[hq]at hd;have hd':D.str [c]=d:=by simpa using hd
     subst hd';have hi:i<z.cps.size:=by have:=(Yj.mp hq).1;simpa using this
     refine⟨hi,λy H3 hy=>⟨hy.1,?_⟩⟩;obtain⟨_,c',hc',rfl⟩:=hy;have:c'=c:=by rw[←Array.getElem?_toList,hq]at hc';exact(Y3 hc').symm
     subst this;exact Rep.str
   .show i=z.cps.size;rw[hl];simp
 cases ha:z.cps.all (· <128)
 .exact wpAny_pyIter_wide ha (key "str_iterator" _ (λA' hA=>Walks.strWide hA _ z t) (λ_ _ _ _ _ st h=>wpAny_pyIter_striter_wide st h) (by decide) ⟨_,Yu _ rfl,rfl,rfl⟩)
 .exact wpAny_pyIter_ascii ha (key "str_ascii_iterator" _ (λA' hA=>Walks.strAscii hA _ z t) (λ_ _ _ _ _ st h=>wpAny_pyIter_striter_ascii st h) (by decide) ⟨_,Yu _ rfl,rfl,rfl⟩)
theorem uf(h:C3 X e f):CI X tg e (cN f):=ZrE h (Zrv h)
theorem Jt{T:String}{ty:D->Store->Bool}{m:D->List D->Store->R3 D}(hty:∀H ι M a x,Zu K H ι M->Rep K H ι a x->ty a M=true->Ds K T x H)(σ:St)(H:Hp)(Q:VK)(h:oV K (cL ty m f gl) σ H Q):X6 K T (rM K m) (oV K f) (Pr K gl) σ H Q:=by
 obtain⟨ι,M,env,S,E,h⟩:=h;obtain⟨a,M1,e1,h⟩:=Zr.bind h;refine⟨ι,M,env,S,E,?_⟩;rw[e1];intro v H1 ι1 x1 S1 r1;by_cases ht:ty a M1=true
 .rw[if_pos ht]at h;obtain⟨ds,M2,e2,h⟩:=Zr.bind h;refine⟨hty _ _ _ _ _ S1 r1 ht,ι1,M1,env,S1,E.mono x1,?_⟩;rw[e2];intro vs H2 ι2 x2 S2 r2;exact⟨ι2,M2,a,ds,S2,r1.mono x2,r2,(h.up x1).up x2⟩
 .rw[if_neg ht]at h;exact h.elim
theorem Qg(H:Hp)(ι:List Yl)(M:Store)(a:D)(x:V)(_:Zu K H ι M)(r:Rep K H ι a x)(h:fY a M=true):Ds K "str" x H:=by
 cases a with
 |str z=>rw[r.str_inv];rfl|_=>exact ft h
theorem ZpV(H:Hp)(ι:List Yl)(M:Store)(a:D)(x:V)(S:Zu K H ι M)(r:Rep K H ι a x)(h:nH a M=true):Ds K "list" x H:=by
 cases a with
 | ref n=>
  rw[Iw]at h;cases hn:M[n]? with
  |none=>rw[hn]at h;exact ft h|some o=>
   cases o with
   |dct _=>rw[hn]at h;exact ft h|cO _=>rw[hn]at h;exact ft h|ins _ _=>rw[hn]at h;exact ft h|lst xs=>obtain⟨p,hp,rfl⟩:=r.dZ;obtain⟨vs,e,_⟩:=S.obj n _ p hn hp;exact .inl ⟨rfl,vs,bK.of e⟩
 |_=>exact ft h
theorem _root_.L2.qC.imp{id:String}{r r':V->List V->Hp->VK->Prop}(h:qC X id r)(i:∀x xs H Q,r' x xs H Q->r x xs H Q):qC X id r':=λpins s σ H x xs v us Q I rx rs q=>h pins s σ H x xs v us Q I rx rs (i x xs H Q q)
theorem Zm6:qC X "list.append" (rM X.K nG):=qC.imp (r:=X7) X8 λx xs H Q ak=>by
 obtain⟨ι,M,a,ds,S,ra,rd,h⟩:=ak;cases a with
 | ref n=>
  cases ds with
  |nil=>exact h.elim|cons d ds=>
   cases ds with
   |cons _ _=>exact h.elim|nil=>
    simp only[Iv]at h;cases hn:M[n]? with
    |none=>simp only[hn]at h;exact h.elim|some o=>
     cases o with
     |dct _=>simp only[hn]at h;exact h.elim|cO _=>simp only[hn]at h;exact h.elim|ins _ _=>simp only[hn]at h;exact h.elim|lst z=>
      simp only[hn]at h;split at h
      .rename_i hz;obtain⟨p,hp,rfl⟩:=ra.dZ;obtain⟨v,ws,rfl,r1,r2⟩:=rd.cons_inv;have:=r2.nil_inv;subst this;obtain⟨vs,e,rv⟩:=S.obj n _ p hn hp;obtain⟨x2,S2⟩:=S.KR (.inr (.inl ⟨_,e⟩)) hp (rv.append (Zo.cons r1 Zo.nil));exact⟨p,vs,v,rfl,rfl,e,by rw[rv.length];exact Yw hz nP,h _ _ _ x2 S2 Rep.non⟩
      .exact h.elim
 |_=>exact h.elim
theorem Qh(ho:C3 X o f)(ha:CA X (e::es) gl)(hbase:sH o "append" X.env (aA o X.env)=aA o X.env:=by rfl)(hfew:((bI cpos (Yk (e::es) X.env)).all (λx=>!x.1)&&(ju cpos (jt [] X.env)).all (λx=>x.1.isSome)
   &&decide ((e::es).length+([]:List Keyword).length+(if([]:List Keyword).isEmpty then 0 else 1)<30))=true:=by rfl)(hline:(apos.endLine==cpos.line)=true:=by rfl)(hs:Yk (e::es) X.env=(false,aA e X.env)::Yk es X.env:=by rfl)(hplain:(bI cpos (Yk es X.env)).any (·.1)=false:=by rfl):
  C3 X (.Call (.Attribute o "append" apos) (e::es) [] cpos) (cL nH nG f gl):=
 (Ih PySem.F.plainAttrs_list PySem.F.slot_list_append PySem.F.type_list_append Zm6 ho ha hbase hfew hline hs hplain).imp (Jt ZpV)
theorem Zo6(x y:List Nat):Wz (⟨x.toArray⟩:aj) ⟨y.toArray⟩=y.isPrefixOf x:=by
 unfold Wz Builtin.Str.subAt;simp only[oH,Yo,qd];rw[G4];simp only[gq,decide_eq_true_eq,beq_iff_eq,List.isPrefixOf_iff_prefix];constructor
 .rintro⟨_,h⟩;have h':=congrArg Cy h;simp at h';rw[Ut];exact h'.symm
 .intro h;refine⟨h.length_le,?_⟩;rw[Ut]at h;apply Array.toList_inj.mp;simp;exact h.symm
theorem m_startswith:qC X "str.startswith" (rM X.K tZ):=by
 intro pins s σ H x xs v us Q I rx rs h;obtain⟨ι,M,a,ds,S,ra,rd,h⟩:=h;cases a with
 | str z=>
  cases ds with
  |nil=>exact h.elim|cons d ds=>
   cases ds with
   |cons _ _=>cases d<;>exact h.elim|nil=>
    cases d with
    | str y=>
     simp only[Iu]at h;split at h
     .have:=ra.str_inv;subst this;obtain⟨w',ws,rfl,r1,r2⟩:=rd.cons_inv;have:=r2.nil_inv;subst this;have:=r1.str_inv;subst this;obtain⟨t,rfl⟩:=rx;obtain⟨u,rfl,ru⟩:=vals1 rs;obtain⟨t',rfl⟩:=ru;refine SC.startswith ?_;rw[Zo6];exact⟨.bl _,H,I,rfl,Zr.ok h S Rep.bl⟩
     .exact h.elim
    |_=>exact h.elim
 |_=>exact h.elim
theorem Zdc(ho:C3 X o f)(ha:CA X (e::es) gl)(hbase:sH o "startswith" X.env (aA o X.env)=aA o X.env:=by rfl)(hfew:((bI cpos (Yk (e::es) X.env)).all (λx=>!x.1)&&(ju cpos (jt [] X.env)).all (λx=>x.1.isSome)
   &&decide ((e::es).length+([]:List Keyword).length+(if([]:List Keyword).isEmpty then 0 else 1)<30))=true:=by rfl)(hline:(apos.endLine==cpos.line)=true:=by rfl)(hs:Yk (e::es) X.env=(false,aA e X.env)::Yk es X.env:=by rfl)(hplain:(bI cpos (Yk es X.env)).any (·.1)=false:=by rfl):
  C3 X (.Call (.Attribute o "startswith" apos) (e::es) [] cpos) (cL fY tZ f gl):=
 (Ih Mq PySem.F.slot_str_startswith PySem.F.type_str_startswith m_startswith ho ha hbase hfew hline hs hplain).imp (Jt Qg)
theorem ZsP:aJ X (fB .In) (r2 X.K λa b M=>match a,b with| .str [c],.str y=>.ok (.bl (decide (c∈y))) M|_,_=>.bad):=aJ.imp Zli λx y H Q ak=>by
 obtain⟨ι,M,a,b,S,ra,rb,h⟩:=ak;cases a with
 | str z=>
  cases z with
  |nil=>cases b<;>exact h.elim|cons c z=>
   cases z with
   |cons _ _=>cases b<;>exact h.elim|nil=>
    cases b with
    |str y=>refine⟨_,_,ra.str_inv,rb.str_inv,?_⟩;have e:=Wx (⟨y.toArray⟩:aj) c;rw[show(⟨[c].toArray⟩:aj)=⟨#[c]⟩from rfl,e];exact Zr.ok h S Rep.bl|_=>exact h.elim
 |_=>cases b<;>exact h.elim
end
variable{items:Array Yd}
section
variable {X:Cx}
theorem Zuk(hu:X.A.units+80<fV):aJ X (fB .NotEq) (r2 X.K Du):=by
 intro pins s σ H x y v u Q I rx ry h;obtain⟨ι,M,a,b,S,ra,rb,h⟩:=h;unfold Du at h;cases q:oM a b M with
 |none=>rw[q]at h;exact h.elim|some k=>rw[q]at h;exact(Zk6 hu I S ra rb rx ry q).2 X.prog X.w X.xe _ ⟨.bl (!k),H,I,rfl,Zr.ok h S Rep.bl⟩
theorem ZiX(r:Rep K H ι d v)(h:d_ d=true):qD v=true:=by
 cases d with
 |non=>rw[r.iT];rfl|bl b=>rw[r.fO];rfl|int i=>rw[r.int_inv];rfl|str x=>rw[r.str_inv];rfl
 |_=>exact ft h
theorem Zov(x y:List Nat):((⟨x.toArray⟩:aj)==⟨y.toArray⟩)=(x==y):=by rw[G4];simp
theorem Zpj{e:D}{w:V}(r:Rep K H ι d v)(q:Rep K H ι e w)(h:d_ d=true)(h':d_ e=true):tW v w=e_ d e:=by
 cases d with
 |non=>rw[r.iT];cases e with
  |non=>rw[q.iT];rfl|bl _=>rw[q.fO];rfl|int _=>rw[q.int_inv];rfl|str _=>rw[q.str_inv];rfl
  |_=>exact ft h'
 |bl _=>rw[r.fO];cases e with
  |non=>rw[q.iT];rfl|bl _=>rw[q.fO];rfl|int _=>rw[q.int_inv];rfl|str _=>rw[q.str_inv];rfl
  |_=>exact ft h'
 |int _=>rw[r.int_inv];cases e with
  |non=>rw[q.iT];rfl|bl _=>rw[q.fO];rfl|int _=>rw[q.int_inv];rfl|str _=>rw[q.str_inv];rfl
  |_=>exact ft h'
 |str _=>rw[r.str_inv];cases e with
  |non=>rw[q.iT];rfl|bl _=>rw[q.fO];rfl|int _=>rw[q.int_inv];rfl|str _=>rw[q.str_inv];exact Zov _ _
  |_=>exact ft h'
 |_=>exact ft h
theorem ZkP{K:Yb}{H:Hp}{ι:List Yl}{d:D}{v:V}(r:Rep K H ι d v)(h:d_ d=true):∀{ds:List D} {vs:List V},Zo K H ι ds vs->ds.all d_=true->vs.all qD=true/\inV v vs=ds.any λy=>e_ y d
 |[],_,q,_=>by rw[q.nil_inv];exact⟨rfl,rfl⟩|e::ds,_,q,hd=>by obtain⟨w,ws,rfl,r1,r2⟩:=q.cons_inv;rw[mY,gq]at hd;obtain⟨h1,h2⟩:=ZkP r h r2 hd.2;refine⟨by rw[mY,ZiX r1 hd.1,h1];rfl,?_⟩;unfold inV at h2 ⊢;rw[p7,p7,h2,Zpj r1 r hd.1 h]
inductive InK(a b:D)(k:Bool):Prop
 |tup (ys:List D):b= .tup ys->(ys.any λy=>e_ y a)=k->d_ a=true->ys.all d_=true->InK a b k
 |str (c:Nat) (y:List Nat):a= .str [c]->b= .str y->decide (c∈y)=k->InK a b k
theorem inK{a b:D}{k:Bool}(h:inD a b=Ya k):InK a b k:=by
 cases b with
 |tup ys=>exact have w:=P0 h;.tup ys rfl w.1 w.2.1 w.2.2|str y=>
  cases a with
  | str z=>cases z with
   |nil=>exact fW h|cons c z=>cases z with
    |nil=>exact .str c y rfl rfl (Y3 h)|cons _ _=>exact fW h
  |_=>exact fW h
 |_=>exact fW h
theorem Zms{a:D}{ys:List D}{x y:V}(n:Bool)(ra:Rep K H ι a x)(rb:Rep K H ι (.tup ys) y)(fa:d_ a=true)(fs:ys.all d_=true)(q:Q (.bl (if n then !(ys.any λy=>e_ y a)else ys.any λy=>e_ y a)) H):Oh K n x y H Q:=by obtain⟨p,vs,e,s,r⟩:=rb.gF;obtain⟨h1,h2⟩:=ZkP ra fa r fs;exact⟨p,vs,e,.inr s,ZiX ra fa,h1,by rw[h2];exact q⟩
theorem Ju(hu:X.A.units+80<fV):aJ X (fB .In) (r2 X.K fJ):=aJ.imp (aJ.or ZsP ZlL) λx y H Q ak=>by
 obtain⟨ι,M,a,b,S,ra,rb,h⟩:=ak;unfold fJ at h;cases q:inD a b with
 |none=>rw[q]at h;exact h.elim|some k=>
  rw[q]at h;rcases inK q with⟨ys,eb,ek,fa,fs⟩|⟨c,z,ea,eb,ek⟩
  .rw[eb]at rb;rw[←ek]at h;exact .inr (Zms false ra rb fa fs (Zr.ok h S Rep.bl))
  .rw[ea]at ra;rw[eb]at rb;rw[←ek]at h;exact .inl ⟨ι,M,_,_,S,ra,rb,h⟩
theorem Zny:aJ X (fB .NotIn) (r2 X.K λa b M=>match a,b with| .str [c],.str y=>.ok (.bl (!decide (c∈y))) M|_,_=>.bad):=aJ.imp Zh6 λx y H Q ak=>by
 obtain⟨ι,M,a,b,S,ra,rb,h⟩:=ak;cases a with
 | str z=>
  cases z with
  |nil=>cases b<;>exact h.elim|cons c z=>
   cases z with
   |cons _ _=>cases b<;>exact h.elim|nil=>
    cases b with
    |str y=>refine⟨_,_,ra.str_inv,rb.str_inv,?_⟩;have e:=Wx (⟨y.toArray⟩:aj) c;rw[show(⟨[c].toArray⟩:aj)=⟨#[c]⟩from rfl,e];exact Zr.ok h S Rep.bl|_=>exact h.elim
 |_=>cases b<;>exact h.elim
theorem Zox(hu:X.A.units+80<fV):aJ X (fB .NotIn) (r2 X.K Dv):=aJ.imp (aJ.or Zny Zhp) λx y H Q ak=>by
 obtain⟨ι,M,a,b,S,ra,rb,h⟩:=ak;unfold Dv at h;cases q:inD a b with
 |none=>rw[q]at h;exact h.elim|some k=>
  rw[q]at h;rcases inK q with⟨ys,eb,ek,fa,fs⟩|⟨c,z,ea,eb,ek⟩
  .rw[eb]at rb;rw[←ek]at h;exact .inr (Zms true ra rb fa fs (Zr.ok h S Rep.bl))
  .rw[ea]at ra;rw[eb]at rb;rw[←ek]at h;exact .inl ⟨ι,M,_,_,S,ra,rb,h⟩
theorem Zo.repl(r:Zo K H ι ds vs):∀k:Nat,Zo K H ι (Yt k ds).flatten (Yt k vs).flatten
 |0=>Zo.nil|k+1=>by rw[UL,UL,U5,U5];exact r.append (Zo.repl r k)
theorem ZkT(n d:Nat)(hd:d<=n)(o:Option Int):(match o with|none=>(d:Int)|some i=>max 0 (fG (if i<0 then i+(n:Int)else i) (n:Int)))=((au n d o:Nat):Int):=by
 cases o with
 |none=>rfl|some v=>
  show max 0 (fG (if v<0 then v+(n:Int)else v) (n:Int))=(((if v<0 then(v+(n:Int)).toNat else fG v.toNat n):Nat):Int);by_cases h:v<0
  .rw[if_pos h,if_pos h];exact Np v n h
  .rw[if_neg h,if_neg h];exact Nq v n h
theorem Zff(lo hi:Option Int)(n:Nat):Hg lo hi 1 n=(jx (au n n hi-au n 0 lo)).map (λk=>au n 0 lo+k):=by
 have e1:=ZkT n 0 (jy _) lo;have e2:=ZkT n n (Yq _) hi;have key:Hg lo hi 1 n=sliceRange ((au n 0 lo:Nat):Int) ((au n n hi:Nat):Int) 1:=by rw[←e1,←e2];simp only[Hg,show((1:Int)>0)=True from by simp,if_true];cases lo<;>cases hi<;>rfl
 rw[key];generalize au n 0 lo=a;generalize au n n hi=b;simp only[sliceRange,show((1:Int)>0)=True from by simp,if_true];by_cases hlt:(a:Int)<b
 .have e3:(((b:Int)-a+1-1) / 1).toNat=b-a:=by first|exact eZ (iN [_,_,_,_] [_] 3 0x230038a112c001aa1808fcf001d81 T1 (Int.mul_ediv_self_le (by decide)) (qp _ _) (u9 (iN [_,_] [_] 2 0xe8a001dcaa0818fcf91180891 T1 hlt (VB (by decide))))) (iN [_,_,_,_] [_] 3 0x230013c2128081a001dcaa1808fcf91 T1 (VB (by decide)) (G8 _) (p8 (iN [_,_] [] 1 4296542353 T1 hlt)))|(simp;done)|(simp;omega)
  simp only[hlt,if_true,e3];refine Ly λk _=>?_;exact eZ (iN [_,_,_] [] 1 0x21c002801d18c08a1 T1 (u9 (iN [_,_] [] 0 103109659880 T1))) (iN [_,_,_] [] 1 0x210c0281801d08c81 T1 (G8 _))
 .have:b-a=0:=eZ (w6 (Vi (iN [_,_] [] 1 270010577 T1 hlt))) (jy _);simp[hlt,this]
theorem Ig(n d:Nat)(hd:d<=n)(o:Option Int):au n d o<=n:=by
 cases o with
 |none=>exact hd|some v=>simp only[au];split <;>omega
theorem ZjF(z:List Nat)(lo hi:Option Int)(l u:Option (Int×dX))(hl:l.map (·.1)=lo)(hu:u.map (·.1)=hi):
  (if((1:Int)==1&&(wR ⟨z.toArray⟩ l u Yi).length==(⟨z.toArray⟩:aj).length)=true then(⟨z.toArray⟩:aj)else⟨((wR ⟨z.toArray⟩ l u Yi).filterMap ((⟨z.toArray⟩:aj).cps[·]?)).toArray⟩)=⟨(cutD z lo hi).toArray⟩:=by
 have e0:wR ⟨z.toArray⟩ l u Yi=(jx (au z.length z.length hi-au z.length 0 lo)).map (λk=>au z.length 0 lo+k):=by unfold wR;rw[hl,hu];simp only[oH,Yo];exact Zff lo hi z.length
 have hb:=Ig z.length z.length (Yq _) hi;rw[e0];have pick:((jx (au z.length z.length hi-au z.length 0 lo)).map (λk=>au z.length 0 lo+k)).filterMap ((⟨z.toArray⟩:aj).cps[·]?)=cutD z lo hi:=by
  unfold cutD;by_cases hab:au z.length 0 lo<=au z.length z.length hi
  .have h:=StrLaws.picks z (au z.length z.length hi-au z.length 0 lo) (au z.length 0 lo) (lD 2 82120338080600065 T1 hb (p8 hab));simpa using h
  .have:au z.length z.length hi-au z.length 0 lo=0:=eZ (w6 (Vi (lB 1 1052737 T1 hab))) (jy _);rw[this];simp
 rw[pick];split
 .rename_i hc;simp only[Yn,U6,oH,Yo,gq,beq_iff_eq]at hc;have hc2:=hc.2;have h0:au z.length 0 lo=0\/z.length=0:=by omega
  have:cutD z lo hi=z:=by
   unfold cutD;rcases h0 with h0|h0
   .rw[h0,Ve,Gs (by exact lD 3 0x3102001e3c2011031 T1 hc2 (qp _ _) (GX _ _))]
   .have:z=[]:=Ce h0;subst this;simp
  rw[this]
 .rfl
theorem ZpY:gY X (λx lo hi H Q=>∃z:List Nat,x= .str ⟨z.toArray⟩/\z.length<=SZ/\Q (.str ⟨(cutD z lo hi).toArray⟩) H):=by
 intro pins s σ H x v vl vu lo hi sl Q I rx hs pl pu h;obtain⟨z,rfl,hz,q⟩:=h;obtain⟨t,rfl⟩:=rx;have part:∀{v:Yd} {o:Option Int},IsPart v o->∃p:Option (Int×dX),v=partValue p/\p.map (·.1)=o:=by
  intro v o h;cases h with
  |none=>exact⟨Yi,rfl,rfl⟩|int i t=>exact⟨Ya (i,t),rfl,rfl⟩
 obtain⟨l,rfl,hl⟩:=part pl;obtain⟨u,rfl,hu⟩:=part pu;refine⟨"str",_,PySem.F.slot_str_getitem.lookup,yS _ _ _,?_⟩;refine wpAny_getItem_str_slice (l:=l) (u:=u) (st:=Yi) hs rfl ?_;unfold sliceMade;refine post_val_or_made (λ_=>?_) λt' k=>?_
 .show((wR ⟨z.toArray⟩ l u Yi).filterMap ((⟨z.toArray⟩:aj).cps[·]?)).toArray.size<=Y6;rw[Yo];refine Ys (List.length_filterMap_le _ _) ?_;show(Hg (l.map (·.1)) (u.map (·.1)) 1 (⟨z.toArray⟩:aj).length).length<=Y6;rw[Zff];simp only[Yn,U6,oH,Yo];have:=Ig z.length z.length (Yq _) (u.map (·.1));have:=nP;omega
 .have e:=ZjF z lo hi l u hl hu;have e':(if(((Yi:Option (Int×dX)).map (·.1)).getD 1==1&&(wR ⟨z.toArray⟩ l u Yi).length==(⟨z.toArray⟩:aj).length)=true then(⟨z.toArray⟩:aj)else⟨((wR ⟨z.toArray⟩ l u Yi).filterMap ((⟨z.toArray⟩:aj).cps[·]?)).toArray⟩)=⟨(cutD z lo hi).toArray⟩:=e;rw[e'];exact⟨.str _,H,I.tok _,⟨_,rfl⟩,q⟩
theorem Zec{prog:Yz}{w:aD}{t sl:Yl}{vl vu:Yd}{lo hi:Option Int}{Q:Yd->Yg->Prop}(ht:IsTup s.heap t items)(hs:s.heap.IsSliceOf sl vl vu .none)(pl:IsPart vl lo)(pu:IsPart vu hi)(hw:HT.au items.size 0 lo=0/\HT.au items.size items.size hi=items.size)(h:Q (.ref t) s):Y1 (Y9 prog w) A (mV (.ref t) (.ref sl)) Q E s:=by
 obtain⟨os,hos,hcs,hds⟩:=id hs;have hTs:s.TypeIs (.ref sl) "slice":=⟨os,hos,hcs⟩;unfold mV
 try with_reducible refine fP ?_
 first|refine Yc (Ym ?_)|skip
 refine Yc (K9 ht.typeIs (by decide) ?_);refine Yc (uM (name:=jd "__getitem__") ht.typeIs Hh
  (uO Hh ht.typeIs V0 ?_ (V2 _ _)))
 show Y1 _ _ (Wb (.ref t)>>=_) _ _ s;refine Yc (tupleItemsOf_ ht ?_);refine Yc (Gb hTs ?_);rw[if_pos (by decide)];refine Yc (HT.Rm hs pl pu ?_);have Ag5:(((HT.au items.size 0 lo:Nat):Int)==0&&(1:Int)==1&&(HT.au items.size items.size hi-HT.au items.size 0 lo)==items.size)=true:=by rw[hw.1,hw.2];simp
 show Y1 _ _ (if(((HT.au items.size 0 lo:Nat):Int)==0&&(1:Int)==1&&(HT.au items.size items.size hi-HT.au items.size 0 lo)==items.size)=true then _ else _) _ _ s;rw[if_pos Ag5];unfold Builtin.Tuple.tupleIsExact;refine Yc (Yc (Gb ht.typeIs (Ym ?_)));rw[if_pos (by decide)];exact Yc (Gf (Ym ⟨_,rfl,Ym h⟩))
theorem Zo4:gY X (λx lo hi H Q=>∃a xs,x= .ref a/\bY X.K H a xs/\(HT.au xs.length 0 lo=0/\HT.au xs.length xs.length hi=xs.length)/\Q (.ref a) H):=by
 intro pins s σ H x v vl vu lo hi sl Q I rx hs pl pu h;obtain⟨a,xs,rfl,hx,hw,q⟩:=h;cases rx;obtain⟨its,r,ht,hz⟩:=I.tuple hx;have hlen:its.toArray.size=xs.length:=by rw[Yo];exact r.length.symm
 refine⟨"tuple",_,PyProof.Rows.slot_tuple_getitem.lookup,ht.typeIs,?_⟩;exact Zec ht hs pl pu (by rw[hlen];exact hw) ⟨.ref a,H,I,rfl,q⟩
theorem v5:gY X (rS X.K):=gY.imp (gY.or (gY.or XJ Zo4) (gY.or Zob ZpY)) λx lo hi H Q ak=>by
 obtain⟨ι,M,a,S,ra,h⟩:=ak;have ex:∀n d o,HT.au n d o=au n d o:=λn d o=>by cases o<;>rfl
 cases a with
 | tup ds=>
  simp only[qG,qH,qI,qJ]at h;obtain⟨p,vs,rfl,s,r⟩:=ra.gF;by_cases hw:au ds.length 0 lo=0/\au ds.length ds.length hi=ds.length
  .refine .inl (.inr ⟨p,vs,rfl,s,by rw[ex,ex,r.length];exact hw,?_⟩);have e:cutD ds lo hi=ds:=by unfold cutD;rw[hw.1,hw.2];simp
   rw[e]at h;exact Zr.ok h S (Rep.tup s r)
  .refine .inl (.inl ⟨p,vs,rfl,s,by rw[ex,ex,r.length];exact hw,λq hq=>?_⟩);obtain⟨x2,S2,r2⟩:=S.wJ hq (Qa r lo hi);exact h _ _ _ x2 S2 r2
 |aV ds=>simp only[qG,qH,qI,qJ]at h;obtain⟨p,vs,rfl,s,r⟩:=ra.rY;refine .inr (.inl ⟨p,vs,rfl,s.sq,λq hq=>?_⟩);obtain⟨x2,S2,r2⟩:=S.lst hq (Qa r lo hi);exact h _ _ _ x2 S2 r2|str z=>
  simp only[qG,qH,qI,qJ]at h;split at h
  .rename_i hz;exact .inr (.inr ⟨z,ra.str_inv,hz,Zr.ok h S Rep.str⟩)
  .exact h.elim
 | ref n=>
  simp only[qG,qH,qI,qJ]at h;cases hn:M[n]? with
  |none=>simp only[hn]at h;exact h.elim|some o=>
   cases o with
   |dct _=>simp only[hn]at h;exact h.elim|cO _=>simp only[hn]at h;exact h.elim|ins _ _=>simp only[hn]at h;exact h.elim|lst ds=>simp only[hn]at h;obtain⟨p,hp,rfl⟩:=ra.dZ;obtain⟨vs,e,r⟩:=S.obj n _ p hn hp;refine .inr (.inl ⟨p,vs,rfl,bK.of e,λq hq=>?_⟩);obtain⟨x2,S2,r2⟩:=S.lst hq (Qa r lo hi);exact h _ _ _ x2 S2 r2
 |_=>exact h.elim
theorem v6{xs:List V}(r:Zo K H ι [d] xs):∃x,xs=[x]/\Rep K H ι d x:=by obtain⟨v,ws,rfl,r1,r2⟩:=r.cons_inv;have:=r2.nil_inv;subst this;exact⟨v,rfl,r1⟩
theorem qW:cj X (.builtin "len") (rB X.K cH):=cj.imp Zni λxs H Q ak=>by
 obtain⟨ι,M,ds,S,rd,h⟩:=ak;cases ds with
 |nil=>exact h.elim|cons d ds=>
  cases ds with
  |cons _ _=>cases d<;>exact h.elim|nil=>
   obtain⟨x,rfl,r⟩:=v6 rd;cases d with
   |tup z=>obtain⟨p,vs,rfl,s,r'⟩:=r.gF;exact⟨_,vs.length,rfl,.inr ⟨vs,s,rfl⟩,by rw[r'.length];exact Zr.ok h S Rep.int⟩|aV z=>obtain⟨p,vs,rfl,s,r'⟩:=r.rY;exact⟨_,vs.length,rfl,.inl ⟨vs,s.sq,rfl⟩,by rw[r'.length];exact Zr.ok h S Rep.int⟩|str z=>
    simp only[Io,Ip,Ir,vC]at h;split at h
    .rename_i hz;have:=r.str_inv;subst this;refine⟨_,z.length,rfl,⟨?_,?_⟩,Zr.ok h S Rep.int⟩
     .show z.toArray.size<=Y6;rw[Yo];exact Ys hz nP
     .show z.length=z.toArray.size;rw[Yo]
    .exact h.elim
   | ref n=>
    cases hn:M[n]? with
    |none=>rw[vC,hn]at h;exact h.elim|some o=>
     cases o with
     |dct _=>rw[vC,hn]at h;exact h.elim|cO _=>rw[vC,hn]at h;exact h.elim|ins _ _=>rw[vC,hn]at h;exact h.elim|lst z=>simp only[Io,Ip,Ir,vC,hn]at h;obtain⟨p,hp,rfl⟩:=r.dZ;obtain⟨vs,e,r'⟩:=S.obj n _ p hn hp;exact⟨_,vs.length,rfl,.inl ⟨vs,bK.of e,rfl⟩,by rw[r'.length];exact Zr.ok h S Rep.int⟩
   |_=>exact h.elim
theorem Qi:cj X (.type "tuple") (rB X.K qK):=cj.imp ZgK λxs H Q ak=>by
 obtain⟨ι,M,ds,S,rd,h⟩:=ak;cases ds with
 |nil=>exact h.elim|cons d ds=>
  cases ds with
  |cons _ _=>cases d<;>exact h.elim|nil=>
   obtain⟨x,rfl,r⟩:=v6 rd;cases d with
   |tup z=>obtain⟨p,vs,rfl,s,r'⟩:=r.gF;exact⟨p,vs,rfl,.inr ⟨s,Zr.ok h S (Rep.tup s r')⟩⟩|aV z=>obtain⟨p,vs,rfl,s,r'⟩:=r.rY;refine⟨p,vs,rfl,.inl ⟨s.sq,λq hq=>?_⟩⟩;obtain⟨x2,S2,r2⟩:=S.wJ hq r';exact h _ _ _ x2 S2 r2|ref n=>
    cases hn:M[n]? with
    |none=>rw[zR,hn]at h;exact h.elim|some o=>
     cases o with
     |dct _=>rw[zR,hn]at h;exact h.elim|cO _=>rw[zR,hn]at h;exact h.elim|ins _ _=>rw[zR,hn]at h;exact h.elim|lst z=>simp only[ZP,ZQ,zR,hn]at h;obtain⟨p,hp,rfl⟩:=r.dZ;obtain⟨vs,e,r'⟩:=S.obj n _ p hn hp;refine⟨p,vs,rfl,.inl ⟨bK.of e,λq hq=>?_⟩⟩;obtain⟨x2,S2,r2⟩:=S.wJ hq r';exact h _ _ _ x2 S2 r2
   |_=>exact h.elim
theorem Zm7:cj X (.type "list") (rB X.K vD):=cj.imp Zif λxs H Q ak=>by
 obtain⟨ι,M,ds,S,rd,h⟩:=ak;cases ds with
 |nil=>exact h.elim|cons d ds=>
  cases ds with
  |cons _ _=>cases d<;>exact h.elim|nil=>
   obtain⟨x,rfl,r⟩:=v6 rd;cases d with
   |tup z=>obtain⟨p,vs,rfl,s,r'⟩:=r.gF;refine⟨p,vs,rfl,.inr s,λq hq=>?_⟩;obtain⟨x2,S2,r2⟩:=S.lst hq r';exact h _ _ _ x2 S2 r2|aV z=>obtain⟨p,vs,rfl,s,r'⟩:=r.rY;refine⟨p,vs,rfl,.inl s.sq,λq hq=>?_⟩;obtain⟨x2,S2,r2⟩:=S.lst hq r';exact h _ _ _ x2 S2 r2|ref n=>
    cases hn:M[n]? with
    |none=>rw[zT,hn]at h;exact h.elim|some o=>
     cases o with
     |dct _=>rw[zT,hn]at h;exact h.elim|cO _=>rw[zT,hn]at h;exact h.elim|ins _ _=>rw[zT,hn]at h;exact h.elim|lst z=>simp only[Zmm,Zmk,zT,hn]at h;obtain⟨p,hp,rfl⟩:=r.dZ;obtain⟨vs,e,r'⟩:=S.obj n _ p hn hp;refine⟨p,vs,rfl,.inl (bK.of e),λq hq=>?_⟩;obtain⟨x2,S2,r2⟩:=S.lst hq r';exact h _ _ _ x2 S2 r2
   |_=>exact h.elim
end
theorem qX:fQ "len" =Ya (.builtin "len"):=by decide +kernel
theorem ZrQ:fQ "all" =Ya (.builtin "all"):=by decide +kernel
theorem Zd2:fQ "isinstance" =Ya (.builtin "isinstance"):=by decide +kernel
theorem Zrc:fQ "int" =Ya (.type "int"):=by decide +kernel
theorem ZqO:fQ "str" =Ya (.type "str"):=by decide +kernel
theorem Zks:fQ "list" =Ya (.type "list"):=by decide +kernel
theorem Qj:fQ "tuple" =Ya (.type "tuple"):=by decide +kernel
section
variable {X:Cx} {a:Expr} {pos p p2:aF} {f:E3}
noncomputable def ug:qF->String
 | .int=>"int" | .bool=>"bool" | .str=>"str" | .list=>"list" | .tuple=>"tuple"
theorem yc(K:Yb)(t:String)(T:qF)(ht:t∈["NoneType","bool","int","str","list","tuple","dict"]):
  K4 K (.type t) (.type (ug T))=Ya (t==ug T|| (t== "bool" &&ug T== "int")):=by
 simp only[Y5,uY,or_false]at ht;rcases ht with rfl|rfl|rfl|rfl|rfl|rfl|rfl <;>cases T<;>kernel_rfl
theorem Ztq(T:qF):fQ (ug T)=Ya (.type (ug T)):=by cases T<;>decide +kernel
noncomputable def Zse(T:qF)(o:Option MO):Option Bool:=match o with
 |some (.lst _)=>Ya (T== .list)|some (.dct _)=>Ya false|some (.cO _)=>Yi|some (.ins _ _)=>Yi
 |none=>Yi
theorem Zod{Q:Yd->Yg->Prop}{T:qF}{x:V}{b:Bool}(I:Inv X pins σ H s)(S:Zu X.K H ι M)(r:Rep X.K H ι d x)(ru:RelV x u)(e:qL T d M=Ya b)(h:∀tk,Q (.bool b) {s with toks:=tk}):Y1 (Y9 X.prog X.w) A (call (.builtin "isinstance") [u,.type (ug T)]) Q E s:=by
 cases d with
 |non=>rw[r.iT]at ru;exact zG I ru .non ((yc X.K "NoneType" T (by decide)).trans (vd (by cases T<;>rfl) e)) h|bl c=>rw[r.fO]at ru;exact zG I ru (.bl c) ((yc X.K "bool" T (by decide)).trans (vd (by cases T<;>rfl) e)) h|int i=>rw[r.int_inv]at ru;exact zG I ru (.int i) ((yc X.K "int" T (by decide)).trans (vd (by cases T<;>rfl) e)) h|str z=>rw[r.str_inv]at ru;exact zG I ru (.str _) ((yc X.K "str" T (by decide)).trans (vd (by cases T<;>rfl) e)) h
 |tup ds=>obtain⟨p,vs,its,_,eu,⟨o,h1,h2,_⟩,_⟩:=Ah I r ru;rw[eu];exact kZ TJ I.bF ⟨o,h1,h2⟩ ((yc X.K "tuple" T (by decide)).trans (vd (by cases T<;>rfl) e)) (λz=>nomatch z) h|aV ds=>exact fW e|ref n=>
  have e:Zse T M[n]?=Ya b:=e;obtain⟨a,ha,ex⟩:=r.dZ;rw[ex]at ru;cases hn:M[n]? with
  |none=>rw[hn]at e;exact fW e|some o=>
   rw[hn]at e;cases o with
   |lst z=>obtain⟨vs,ev,_⟩:=S.obj n _ a hn ha;exact zG I ru (.lst ev) ((yc X.K "list" T (by decide)).trans (vd (by cases T<;>rfl) e)) h|dct z=>obtain⟨vs,ev,_⟩:=S.obj n _ a hn ha;exact zG I ru (.dK ev) ((yc X.K "dict" T (by decide)).trans (vd (by cases T<;>rfl) e)) h|cO z=>exact fW e|ins _ _=>exact fW e
theorem ZqZ(T:qF){x:aj}(hm:X.mg "isinstance" =Yi)(hm2:X.mg x=Yi)(h:C3 X a f)(hx:x=(jd (ug T)):=by rfl)(hg:Gl X "isinstance":=by rfl)(hg2:Gl X x:=by rfl)(hn:x≠ "__name__":=by decide)(hd:(x==("__debug__":aj))=false:=by decide)(hs:Yk (a::[.Name x p2]) X.env=(false,aA a X.env)::Yk [.Name x p2] X.env:=by rfl)(hs2:Yk (.Name x p2::[]) X.env=(false,aA (.Name x p2) X.env)::Yk [] X.env:=by rfl)(hpl:(bI pos (Yk [.Name x p2] X.env)).any (·.1)=false:=by rfl):C3 X (.Call (.Name "isinstance" p) [a,.Name x p2] [] pos) (e1 (Dw T) f):=by
 subst hx;have hc:cj X (.builtin "isinstance") (λxs H Q=>∃ι M d x,xs=[x,.ty (ug T)]/\Zu X.K H ι M/\Rep X.K H ι d x/\Zr X.K H ι Q (Dw T d M)):=by
  intro pins s σ H xs us Q I r q;obtain⟨ι,M,d,x,rfl,S,rd,q⟩:=q;obtain⟨u,w',rfl,ru,iG⟩:=vals2 r;cases iG;unfold Dw at q;cases e:qL T d M with
  |none=>rw[e]at q;exact q.elim|some b=>rw[e]at q;exact Zod I S rd ru e λtk=>⟨.bl b,H,I.tok _,rfl,Zr.ok q S Rep.bl⟩
 refine(Od hc hg hm Zd2 (tV h (tV (Xc hg2 hm2 (Ztq T) (v:=.ty (ug T)) rfl hn hd) Dm hs2) hs) (by decide) (by decide) hs hpl).imp λσ H Q ak=>?_;obtain⟨ι,M,env,S,E,h⟩:=ak;obtain⟨d,M1,e1,h⟩:=Zr.bind h;refine⟨ι,M,env,S,E,?_⟩;rw[e1];intro v H1 ι1 x1 S1 r1;exact⟨ι1,M1,d,v,rfl,S1,r1,h.up x1⟩
theorem Zd8{p:D->Bool}:∀{l:List D} {e:Nat->Bool},(∀(j:Nat) d,l[j]?=Ya d->e j=p d)->(jx l.length).all e=l.all p
 |[],_,_=>rfl|d::l,e,h=>by rw[iC,Ux,mY,GD,h 0 d rfl,mY];congr 1;exact Zd8 λj d' hj=>h (j+1) d' (by simpa using hj)
theorem Zte(hc:X.calm=true):cj X (.builtin "all") (rB X.K Dy):=by
 intro pins s σ H xs us Q I rs h;obtain⟨ι,M,ds,S,rd,h⟩:=h;cases ds with
 |nil=>exact h.elim|cons d ds=>
  cases ds with
  |cons _ _=>cases d<;>exact h.elim|nil=>
   obtain⟨x,rfl,r⟩:=v6 rd;obtain⟨u,rfl,ru⟩:=vals1 rs;cases d with
   | ref n=>
    cases hn:M[n]? with
    |none=>rw[zU,hn]at h;exact h.elim|some o=>
     cases o with
     |dct _=>rw[zU,hn]at h;exact h.elim|cO _=>rw[zU,hn]at h;exact h.elim|ins _ _=>rw[zU,hn]at h;exact h.elim|lst z=>
      simp only[zU,hn]at h;cases q:allB z with
      |none=>rw[q]at h;exact h.elim|some b=>
       rw[q]at h;obtain⟨a,ha,rfl⟩:=r.dZ;cases ru;obtain⟨vs,ev,rv⟩:=S.obj n _ a hn ha;obtain⟨its,rr,pl,_⟩:=I.list (bK.of ev);have hz:z.all vG=true/\z.all oN=b:=by
        unfold allB at q;split at q
        .rename_i hz;exact⟨hz,Y3 q⟩
        .cases q
       have hlen:its.toArray.size=z.length:=by rw[Yo,←rr.length,rv.length]
       have Qk:X.A.in1.handled=Yi:=I.ok.hd hc;refine call_all_walk (wO pl.isList ⟨s.heap.objs.size,_,_,_,_,_,(λj=>match z[j]? with|some d=>oN d|none=>true),rfl,Walks.list Qk s.heap.objs.size a (dM (I.hok.lt ev)) its.toArray,⟨⟨_,Yu _ rfl,rfl,rfl⟩,pl.isList.at λo e=>Yh _ e⟩,?_,?_⟩)
       .intro j v s' Q' E' hv hq;have hv':its[j]?=Ya v:=by simpa using hv
        have hj:j<z.length:=by have:=(Yj.mp hv').1;rw[←Yo,hlen]at this;exact this
        have e1:z[j]?=Ya z[j]:=by simp[hj]
        have hb:=jT.mp hz.1 _ (sY hj);obtain⟨w,g1,g2⟩:=rv.get e1;obtain⟨u',k1,k2⟩:=rr.get g1;rw[hv']at k1;cases k1;have hq':Q' (oN z[j]) s':=by have:=hq;simp only[e1]at this;exact this
        generalize z[j]=dj at hb g2 hq';cases dj with
        |bl c=>have:=g2.fO;subst this;cases k2;exact BP hq'|_=>simp[vG]at hb
       .intro h' tk kk;rw[hlen,Zd8 (p:=oN) (λj d hd=>by rw[hd]),hz.2];exact⟨.bl b,H,I.kept (λc o e=>kk c o (by simp;exact dM (Yv e)) (Yh _ e)),rfl,Zr.ok h S Rep.bl⟩
   |_=>exact h.elim
end
noncomputable def ZpC(outer:List (aj×NameKind))(N:List aj)(scope:Scope)(N':List aj)(own:Nat):Bool:=
 (scope.names.all λy=>decide (y.2≠ .cell)&&(decide (y.2≠ .free)|| decide (outer.lookup y.1=Ya .cell)|| decide (outer.lookup y.1=Ya .free))&&(decide (y.2≠ .local)|| decide (scope.names.lookup y.1=Ya .local)))&&
  decide (N'.length=N.length+own)&&Qc N N' scope
theorem yd{scope:Scope}{N':List aj}{own:Nat}(hk:scope.kind= .function)(h:ZpC X.env.scope.names X.N scope N' own=true):Eb X scope N' own:=by
 simp only[ZpC,gq,decide_eq_true_eq,jT,Mh]at h;obtain⟨⟨h1,h2⟩,h3⟩:=h;refine⟨hk,λy hy=>(h1 y hy).1.1,λy hy e=>?_,λy hy e=>?_,h2,h3⟩
 .rcases(h1 y hy).1.2 with(q|q)|q
  .exact absurd e q
  .exact .inl q
  .exact .inr q
 .rcases(h1 y hy).2 with q|q
  .exact absurd e q
  .exact q
theorem n6{h:ao}{mg:aj->Option Yd}(KX:K.In h)(G:h.Ns Y2 mg){x:aj}{f:Yl}{oc:Yd}{od an:Option Yl}{osl:Array (Option Yd)}{dV kV doc pm cdv ct:Yd}(a:PySem.W.nsIn K Y2 x=Ya (Ya (.ref f)))(l:K.lookup f=Ya ⟨oc,od,.func (pY x x (nq st) (gM st) (Zq st) dV kV doc pm an cdv ct),osl⟩)(c:BK K cdv x=true)(k:uJ K (.ref f)=true)(b:Binds K (pY x x (nq st) (gM st) (Zq st) dV kV doc pm an cdv ct) ps []):dG K mg x st ps:=⟨f,_,YF l c k,T6 KX G a,b⟩
theorem ZsS{l:PySem.W.OpenLaw}{k:Nat}{q:Yz}{loose:List aj}{XP:(aj->Option Yd)->ao->Prop}{YP:aD->ao->Prop}{d:DefRec}{K:Params->Yb}{F:F3}(hn:l.most=Ya 63)(hdf:d.params.defaults=[])(hr:bZ k uR)(hY:∀(w:aD) (h:ao),YP w h->(K w.params).In h)(G:∀(w:aD) (mg:aj->Option Yd) (fa:Yl) (h:ao),(K w.params).In h->h.Ns Y2 mg->mg d.name=Ya (.ref fa) ->
   ∃fd:fC,(∀(s:Yg) (u:Yd),yW s fd ⟨[u],[]⟩ [("script",u)])/\∀base:ao,(K w.params).In base->base.Ns Y2 mg->dN l.prog w (K w.params) mg base nA k fa fd ["script"] (xZ (K w.params) 1 F))(hF:∀ns:List Int,ns.length<=63->∃M',F [.aV (ns.map D.int)] []= .ok (.bl true) M'):
  T5 q loose XP YP l.row.toRowW d [] (λf vs=>Lq f vs):=
 L2.Zk0 (n:=63) (k:=k) (x:="script") (CX:=λ_=>nA) (sp:=λw=>xZ (K w.params) 1 F) hn (by decide) hdf hr hY G (λw H a ns hl hO hS=>by
  obtain⟨M',e⟩:=hF ns hl;refine⟨[],[],[.aV (ns.map D.int)],⟨rfl,List.nodup_nil,λn o a h=>by simp at h⟩,Zo.cons ?_ Zo.nil,rfl,?_⟩
  .refine⟨a,ns.map V.int,rfl,?_,Zo.ints ns⟩;rcases hS with(h|⟨o,h⟩)|h
   .rcases hO a with z|⟨ob,xs,z⟩
    .rw[h]at z;cases z
    .rw[h]at z;cases z
   .exact .inl ⟨o,h⟩
   .exact .inr h
  .rw[e]
   exactλv H' ι' _ _ r=>r.fO) λ_ _ _ _ _ z=>z
theorem Ql{a b:dh}(h:dk a=dk b):a=b:=by
 cases a with
 |inl i=>cases b with
  |inl j=>simp only[dk,Sum.inl.injEq]at h;rw[h]|inr y=>simp[dk]at h
 | inr x=>cases b with
  |inl j=>simp[dk]at h|inr y=>simp only[dk,Sum.inr.injEq,Str.mk.injEq]at h;have:=congrArg Cy h;simp at this;rw[this]
theorem Zku{b:D}{y:V}{k:dh}(h:lR b=Ya k)(r:Rep K H ι b y):y=kV (dk k):=by
 cases b with
 |int i=>cases h;exact r.int_inv|str x=>cases h;exact r.str_inv|_=>exact fW h
variable{ws:List (Key×V)}{kvs:List (dh×D)}
section
variable {K:Yb} {H H':Hp} {ι ι':List Yl} {M:Store} {p:Yl}
theorem bL.nil:bL K H ι [] []:=⟨rfl,Zo.nil⟩
theorem bL.cons{k:dh}{d:D}{v:V}{kvs:List (dh×D)}{ws:List (Key×V)}(h:Rep K H ι d v)(r:bL K H ι kvs ws):bL K H ι ((k,d)::kvs) ((dk k,v)::ws):=⟨by simp[r.1],Zo.cons h r.2⟩
theorem bL.cons_inv{q:dh×D}(r:bL K H ι (q::kvs) ws):∃v ws',ws=(dk q.1,v)::ws'/\Rep K H ι q.2 v/\bL K H ι kvs ws':=by
 obtain⟨h1,h2⟩:=r;cases ws with
 |nil=>simp at h1|cons w ws=>simp only[Yy,V3]at h1;obtain⟨v,us,e,r1,r2⟩:=Zo.cons_inv h2;simp only[Yy,V3]at e;exact⟨w.2,ws,by rw[←h1.1],e.1▸r1,h1.2,e.2▸r2⟩
theorem bL.nil_inv(r:bL K H ι [] ws):ws=[]:=by simpa using r.1
theorem bL.mono(r:bL K H ι kvs ws)(e:Ext K H ι H' ι'):bL K H' ι' kvs ws:=⟨r.1,r.2.mono e⟩
theorem bL.length(r:bL K H ι kvs ws):ws.length=kvs.length:=by have:=congrArg tD r.1;simpa using this
theorem bL.val(k:dh):∀{ws:List (Key×V)},bL K H ι kvs ws->match vB kvs k with|some d=>∃v,jD ws (dk k)=Ya v/\Rep K H ι d v|none=>jD ws (dk k)=Yi:=by
 induction kvs with
 |nil=>intro ws r;rw[r.nil_inv];exact ZmJ|cons q kvs ih=>
  intro ws r;obtain⟨v,ws',rfl,r1,r2⟩:=r.cons_inv;obtain⟨k',d⟩:=q;unfold vB;by_cases e:k'=k
  .rw[if_pos e];exact⟨v,Ij (by rw[e]),r1⟩
  .rw[if_neg e,Ik λz=>e (Ql z)];exact ih r2
theorem bL.append{k1 k2:List (dh×D)}{w1 w2:List (Key×V)}(a:bL K H ι k1 w1)(b:bL K H ι k2 w2):bL K H ι (k1++k2) (w1++w2):=⟨by simp[a.1,b.1],by rw[lJ,lJ];exact a.2.append b.2⟩
theorem bL.any(k:dh):∀{ws:List (Key×V)},bL K H ι kvs ws->(ws.any λkv=>decide (kv.1=dk k))=(kvs.any λq=>decide (q.1=k)):=by
 induction kvs with
 |nil=>intro ws r;rw[r.nil_inv];rfl|cons q kvs ih=>
  intro ws r;obtain⟨v,ws',rfl,r1,r2⟩:=r.cons_inv;rw[p7,p7,ih r2];congr 1;by_cases e:q.1=k
  .simp[e]
  .simp[e];exactλz=>e (Ql z)
theorem bL.put{k:dh}(r:bL K H ι kvs ws)(rd:Rep K H ι d v):bL K H ι (putD k d kvs) (putK ws (dk k) v):=by
 unfold putD putK;rw[r.any k];by_cases c:(kvs.any λq=>decide (q.1=k))=true
 .rw[if_pos c,if_pos c];clear c
  induction kvs generalizing ws with
  |nil=>rw[r.nil_inv];exact bL.nil|cons q kvs ih=>
   obtain⟨u,ws',rfl,r1,r2⟩:=r.cons_inv;rw[Yy,Yy];by_cases e:q.1=k
   .rw[if_pos e,if_pos (by rw[e])];exact bL.cons rd (ih r2)
   .rw[if_neg e,if_neg λz=>e (Ql z)];exact bL.cons r1 (ih r2)
 .rw[if_neg c,if_neg c];exact r.append (bL.cons rd bL.nil)
theorem bL.merge{l:List (dh×D)}:∀{kvs:List (dh×D)} {ws us:List (Key×V)},bL K H ι l us->bL K H ι kvs ws->bL K H ι (l.foldl (λacc p=>putD p.1 p.2 acc) kvs) (zN ws us):=by
 induction l with
 |nil=>intro kvs ws us r r0;rw[r.nil_inv];exact r0|cons q l ih=>intro kvs ws us r r0;obtain⟨v,us',rfl,r1,r2⟩:=r.cons_inv;exact ih (ws:=putK ws (dk q.1) v) (us:=us') r2 (r0.put r1)
theorem Zu.dct(S:Zu K H ι M)(hp:H p=Yi)(r:bL K H ι kvs ws):Ext K H ι (upd H p (.dK ws)) (ι++[p])/\Zu K (upd H p (.dK ws)) (ι++[p]) (M++[.dct kvs])/\Rep K (upd H p (.dK ws)) (ι++[p]) (.ref M.length) (.ref p):=by have e:Ext K H ι (upd H p (.dK ws)) (ι++[p]):=Loose.wI (.inl hp);exact⟨e,S.new hp ⟨ws,cU,r.mono e⟩,Rep.ref (by rw[←S.len];simp)⟩
theorem Zu.Ag6(S:Zu K H ι M)(l0:Loose H p)(hn:ι[n]?=Ya p)(r:bL K H ι kvs ws):Ext K H ι (upd H p (.dK ws)) ι/\Zu K (upd H p (.dK ws)) ι (M.set n (.dct kvs)):=by have e:Ext K H ι (upd H p (.dK ws)) ι:=Loose.ext l0;exact⟨e,S.put l0 hn ⟨ws,cU,r.mono e⟩⟩
end
section
variable {X:Cx} {a b c e o:Expr} {es:List Expr} {pos p pos' apos cpos:aF} {f g h:E3} {gl:bW}
def yg(K:Yb)(H:Hp)(ι:List Yl)(Q:List (V×V)->Hp->Prop)(r:R3 (List (dh×D))):Prop:=match r with
 | .ok l M'=>∀ws H' ι',Ext K H ι H' ι'->Zu K H' ι' M'->bL K H' ι' l ws->Q (ws.map λkv=>(kV kv.1,kv.2)) H'|_=>False
theorem yg.bind{Q:List (V×V)->Hp->Prop}{r:R3 α}{k:α->Store->R3 (List (dh×D))}(h:yg K H ι Q (r.bind k)):∃a M,r= .ok a M/\yg K H ι Q (k a M):=by
 cases r with
 |ok a M=>exact⟨a,M,rfl,h⟩|exc x M=>exact h.elim|bad=>exact h.elim
def CD(X:Cx)(pos:aF)(ks:List (Option Expr))(vs:List Expr)(r:vH):Prop:=∃jX,Dt X pos ks vs jX/\∀σ H Q,(∃ι M env,Zu X.K H ι M/\aY X.K H ι env σ/\yg X.K H ι Q (r env M))->Im jX σ H Q
theorem Zq3:CD X pos [] [] Iz:=⟨[],Zpd,λσ H Q ⟨ι,M,env,S,E,h⟩=>h [] H ι Ext.refl S bL.nil⟩
theorem yh{k v:Expr}{ks:List (Option Expr)}{vs:List Expr}{r:vH}(hk:C3 X k f)(hv:C3 X v g)(hr:CD X pos ks vs r):CD X pos (Ya k::ks) (v::vs) (fK f g r):=by
 obtain⟨jX,hp,ht⟩:=hr;refine⟨_,ZmV hk hv hp,λσ H Q ⟨ι,M,env,S,E,h⟩=>?_⟩;obtain⟨a,M1,e1,h⟩:=yg.bind h;obtain⟨b,M2,e2,h⟩:=yg.bind h;refine⟨ι,M,env,S,E,?_⟩;rw[e1];intro x H1 ι1 x1 S1 r1;refine⟨ι1,M1,env,S1,E.mono x1,?_⟩;rw[e2];intro y H2 ι2 x2 S2 r2;cases hkd:lR a with
 |none=>simp only[hkd]at h;exact h.elim|some kk=>simp only[hkd]at h;obtain⟨l,M3,e3,h⟩:=yg.bind h;refine ht σ H2 _ ⟨ι2,M2,env,S2,(E.mono x1).mono x2,?_⟩;rw[e3];intro ws H3 ι3 x3 S3 r3;have:=h ((dk kk,y)::ws) H3 ι3 ((x1.trans x2).trans x3) S3 (bL.cons (r2.mono x3) r3);rw[Yy,←Zku hkd r1]at this;exact this
theorem ZsH{ks:List (Option Expr)}{vs:List Expr}{r:vH}(hr:CD X pos ks vs r)(hall:ks.all (·.isSome)=true:=by rfl)(hl:ks.length=vs.length:=by rfl)(h0:ks≠[]:=by exact List.cons_ne_nil _ _)(h15:ks.length<=15:=by decide):C3 X (.Dict ks vs pos) (Dz r):=by
 obtain⟨jX,hp,ht⟩:=hr;refine(Zoc hp hall hl h0 h15).imp λσ H Q ⟨ι,M,env,S,E,h⟩ p hp=>?_;obtain⟨x1,S1,r1⟩:=S.dct hp bL.nil;obtain⟨l,M1,e1,h⟩:=Zr.bind h;refine ht σ _ _ ⟨_,_,env,S1,E.mono x1,?_⟩;rw[e1];intro ws H2 ι2 x2 S2 r2;have Qm:ι2[M.length]?=Ya p:=x2.pre _ _ (by rw[←S.len];simp);split at h
 .rename_i hm;obtain⟨ws0,hw0,k0⟩:=S2.obj _ _ _ hm Qm;rw[k0.nil_inv]at hw0;split at h
  .rename_i Ag7;refine⟨hw0,ws,rfl,by rw[r2.length];exact Ag7,?_⟩;obtain⟨x3,S3⟩:=S2.Ag6 (.inr (.inr (.inl ⟨_,hw0⟩))) Qm (bL.merge (kvs:=[]) (ws:=[]) r2 bL.nil);exact h _ _ _ ((x1.trans x2).trans x3) S3 (Rep.ref Qm)
  .exact h.elim
 .exact h.elim
theorem hu1(hu:X.A.units+80<fV):X.A.units+1<fV:=lB 1 7331617893452817 T1 hu
theorem ZrC(S:Zu K H ι M){a:Yl}(h:tX M[n]?=Ya kvs)(ha:ι[n]?=Ya a):∃ws,Rd H a (.dK ws)/\bL K H ι kvs ws:=by
 cases hn:M[n]? with
 |none=>simp[hn]at h|some ob=>
  cases ob with
  |lst _=>simp[hn]at h|dct k=>
   have e:k=kvs:=by simpa[hn]using h
   subst e;obtain⟨ws,hw,kr⟩:=S.obj n _ a hn ha;exact⟨ws,.inl hw,kr⟩
  |cO k=>
   have e:k=kvs:=by simpa[hn]using h
   subst e;obtain⟨ws,⟨o,hw⟩,kr⟩:=S.obj n _ a hn ha;exact⟨ws,.inr ⟨o,hw⟩,kr⟩
  |ins _ _=>simp[hn]at h
theorem Zp6(hu:X.A.units+80<fV)(ha:C3 X a f)(hb:C3 X b g)(hs:zM b:=by exactλ_ _=>rfl):C3 X (.Subscript a b pos) (e2 xQ f g):=(ZnX (hu1 hu) ha hb hs).imp λσ H Q ak=>by
 obtain⟨ι,M,env,S,E,h⟩:=ak;obtain⟨d,M1,e1,h⟩:=Zr.bind h;obtain⟨k,M2,e2,h⟩:=Zr.bind h;refine⟨ι,M,env,S,E,?_⟩;rw[e1];intro x H1 ι1 x1 S1 r1;refine⟨ι1,M1,env,S1,E.mono x1,?_⟩;rw[e2];intro y H2 ι2 x2 S2 r2;cases d with
 | ref n=>
  simp only[ZM]at h;cases hn:tX M2[n]? with
  |none=>simp only[hn]at h;exact h.elim|some kvs=>
   cases hk:lR k with
   |none=>simp only[hn,hk]at h;exact h.elim|some kk=>
    simp only[hn,hk]at h;cases hv:vB kvs kk with
    |none=>simp only[hv]at h;exact h.elim|some w=>simp only[hv]at h;obtain⟨ad,ha,rfl⟩:=(r1.mono x2).dZ;obtain⟨ws,hw,kr⟩:=ZrC S2 hn ha;have hv':=kr.val kk;rw[hv]at hv';obtain⟨v,ev,rv⟩:=hv';refine⟨ad,v,rfl,?_,h v H2 ι2 (x1.trans x2) S2 rv⟩;rw[Zku hk r2,←ev];exact .inl ⟨ws,dk kk,hw,rfl,rfl⟩
 |_=>exact h.elim
theorem Zol{op:D->D->D->Store->R3 D}(h':Zr K H ι Q (e3 op f g h env M)):
  ∃a M1 b M2 c M3,f env M= .ok a M1/\g env M1= .ok b M2/\h env M2= .ok c M3/\Zr K H ι Q (op a b c M3):=by
 obtain⟨a,M1,e1,h'⟩:=Zr.bind h';obtain⟨b,M2,e2,h'⟩:=Zr.bind h';obtain⟨c,M3,e3,h'⟩:=Zr.bind h';exact⟨a,M1,b,M2,c,M3,e1,e2,e3,h'⟩
theorem Zmp{D':Ends}(E:aY K H ι env σ)(h':j4 K H ι D' (fL f env M)):Zr K H ι (λ_ H'=>D'.nx σ H') (f env M):=by
 unfold fL at h';cases q:f env M with
 |ok d M1=>rw[q]at h';exactλv H1 ι1 x1 S1 r1=>h' σ H1 ι1 x1 S1 (E.mono x1)|exc x M1=>rw[q]at h';exact h'.elim|bad=>rw[q]at h';exact h'.elim
theorem Jv{i:Expr}{spos:aF}(ho:C3 X o f)(hi:C3 X i g)(hv:C3 X e h)(ha:∀v,lw (.Subscript o i spos) X.env v=(do
   let ov ←sO [v] (aA o X.env)
   let iv ←sO [v,ov] (aA i X.env)
   yV spos
   sO [v,ov,iv] (setItem ov iv v)
   release [v,ov,iv] []):=by intro _;rfl)(hs:swapsWithSole [.Subscript o i spos] e pos.line X.env=pure false:=by rfl)(hw:swappedStores [.Subscript o i spos] e X.env=pure Yi:=by rfl)(h1:(oA [.Subscript o i spos] X.env).map (·.2)=[lw (.Subscript o i spos) X.env]:=by rfl):CS X (.Assign [.Subscript o i spos] e pos) (oO f g h):=(ZqM hv (ZpR ho hi set_list ha) hs hw h1).imp λD' σ H ak=>by
 obtain⟨ι,M,env,S,E,hh⟩:=ak;obtain⟨d,M1,b,M2,k,M3,e1,e2,e3,hh⟩:=Zol (Zmp E hh);refine⟨ι,M,env,S,E,?_⟩;rw[e1];intro v H1 ι1 x1 S1 r1;refine⟨ι1,M1,env,S1,E.mono x1,?_⟩;rw[e2];intro x H2 ι2 x2 S2 r2;refine⟨ι2,M2,env,S2,(E.mono x1).mono x2,?_⟩;rw[e3];intro y H3 ι3 x3 S3 r3;cases b with
 | ref n=>
  cases k with
  | int j=>
   simp only[IV]at hh;cases hn:M3[n]? with
   |none=>simp only[hn]at hh;exact hh.elim|some ob=>
    cases ob with
    |dct _=>simp only[hn]at hh;exact hh.elim|cO _=>simp only[hn]at hh;exact hh.elim|ins _ _=>simp only[hn]at hh;exact hh.elim|lst xs=>
     simp only[hn]at hh;cases hj:jE xs.length j with
     |none=>simp only[hj]at hh;exact hh.elim|some q=>simp only[hj]at hh;obtain⟨ad,ha,rfl⟩:=(r2.mono x3).dZ;obtain⟨ws,hw,kr⟩:=S3.obj n _ ad hn ha;obtain⟨x4,S4⟩:=S3.KR (.inr (.inl ⟨_,hw⟩)) ha (kr.set q ((r1.mono x2).mono x3));exact⟨ad,ws,j,q,rfl,r3.int_inv,hw,by rw[kr.length];exact hj,hh .non _ _ (((x1.trans x2).trans x3).trans x4) S4 Rep.non⟩
  |_=>exact hh.elim
 |_=>exact hh.elim
end
section
variable {X:Cx} {a b c e o:Expr} {es:List Expr} {pos p apos cpos:aF} {f g h:E3} {gl:bW}
theorem ZsV:cj X (.type "int") (rB X.K DG):=cj.imp ZlA λxs H Q ak=>by
 obtain⟨ι,M,ds,S,rd,h⟩:=ak;cases ds with
 |nil=>exact h.elim|cons d ds=>
  cases ds with
  |cons _ _=>cases d<;>exact h.elim|nil=>
   obtain⟨x,rfl,r⟩:=v6 rd;cases d with
   |int i=>exact .inl ⟨i,by rw[r.int_inv],Zr.ok h S Rep.int⟩|bl k=>exact .inr ⟨k,by rw[r.fO],Zr.ok h S Rep.int⟩|_=>exact h.elim
end
section
variable {X:Cx} {a b c e o:Expr} {es:List Expr} {pos p apos cpos:aF} {f g h:E3} {gl:bW}
theorem Zlg:cj X (.type "str") (λxs H Q=>(∃i,xs=[.int i]/\i.natAbs.log2<1920/\Q (.str (ql i)) H)\/∃x,xs=[.str x]/\Q (.str x) H):=by
 intro pins s σ H xs us Q I r h;rcases h with h|⟨x,rfl,q⟩
 .exact Zh0 pins s σ H xs us Q I r h
 .obtain⟨u,rfl,t,rfl⟩:=vals1 r;exact PySem.P.str_of_str ⟨.str x,H,I,⟨t,rfl⟩,q⟩
theorem ZtD:cj X (.type "str") (rB X.K xW):=cj.imp Zlg λxs H Q ak=>by
 obtain⟨ι,M,ds,S,rd,h⟩:=ak;cases ds with
 |nil=>exact h.elim|cons d ds=>
  cases ds with
  |cons _ _=>cases d<;>exact h.elim|nil=>
   obtain⟨x,rfl,r⟩:=v6 rd;cases d with
   | int i=>
    simp only[Z0,Z1]at h;split at h
    .rename_i hz;refine .inl ⟨i,by rw[r.int_inv],hz,Zr.ok h S ?_⟩;have:=Rep.str (K:=X.K) (H:=H) (ι:=ι) (x:=Zi i);exact this
    .exact h.elim
   |str z=>exact .inr ⟨_,by rw[r.str_inv],Zr.ok h S Rep.str⟩|_=>exact h.elim
theorem Zg7{K:Yb}{H:Hp}{ι:List Yl}:∀{x:List D} {ts:List (List Nat)} {vs:List V} {us:List Yd},jj x=Ya ts->Zo K H ι x vs->Vals vs us->∃l:List (aj×dX),us=Gh l/\l.map (·.1)=ts.map λt=>(⟨t.toArray⟩:aj)
 |[],ns,vs,us,h,r,v=>by
  have e:=r.nil_inv;subst e;cases v;have:ns=[]:=by simpa[jj]using h.symm
  subst this;exact⟨[],rfl,rfl⟩
 | .str i::x,ns,vs,us,h,r,v=>by
  obtain⟨u,vs',rfl,r1,r2⟩:=r.cons_inv;have e:=r1.str_inv;subst e;cases v with
  | @cons _ z _ us' rz rzs=>
  obtain⟨t,rfl⟩:=rz;simp only[jj]at h;cases hx:jj x with
  |none=>rw[hx]at h;cases h|some ms=>
   rw[hx]at h;have:ns=i::ms:=by simpa using h.symm
   subst this;obtain⟨l,rfl,e⟩:=Zg7 hx r2 rzs;exact⟨(_,t)::l,rfl,by simp[e]⟩
 | .non::_,_,_,_,h,_,_=>by simp[jj]at h|.bl _::_,_,_,_,h,_,_=>by simp[jj]at h|.int _::_,_,_,_,h,_,_=>by simp[jj]at h|.tup _::_,_,_,_,h,_,_=>by simp[jj]at h
 | .aV _::_,_,_,_,h,_,_=>by simp[jj]at h|.ref _::_,_,_,_,h,_,_=>by simp[jj]at h
theorem Qn(sep:List Nat):∀ts:List (List Nat),Str.join (⟨sep.toArray⟩:aj) (ts.map λt=>(⟨t.toArray⟩:aj))=⟨(glue sep ts).toArray⟩
 |[]=>rfl|[x]=>rfl|x::y::xs=>by have ih:=Qn sep (y::xs);simp only[Yy]at ih ⊢;simp only[Str.join,glue]at ih ⊢;rw[ih];show(⟨(x.toArray++sep.toArray)++(glue sep (y::xs)).toArray⟩:aj)=_;simp
theorem ZrP{sep:List Nat}{ts:List (List Nat)}(h:jZ sep ts<=SZ):JoinOk (⟨sep.toArray⟩:aj) (ts.map λt=>(⟨t.toArray⟩:aj))=true:=by
 have gen:∀(ts:List (List Nat)) (k:Nat),List.foldl (λx1 (x2:aj)=>x1+x2.length+(⟨sep.toArray⟩:aj).length) k (ts.map λt=>(⟨t.toArray⟩:aj))=k+jZ sep ts:=by
  intro ts
  induction ts with
  |nil=>intro k;simp[jZ]|cons t ts ih=>intro k;simp only[Yy,List.foldl_cons,ih];simp[jZ,oH];exact eZ (lD 0 0x321cc0c3210ccc0 T1) (lD 0 0x3210ccc321cc0c0 T1)
 unfold JoinOk Builtin.Str.tooLong;rw[List.foldl_toArray,gen];have:Y6>=SZ:=nP;simp only[qd,Bool.not_eq_true',decide_eq_false_iff_not];exactλz=>lC 3 0x6210102011011 T1 z this h
theorem ZqY:qC X "str.join" (rM X.K vK):=by
 intro pins s σ H x xs v us Q I rx rs h;obtain⟨ι,M,a,ds,S,ra,rd,h⟩:=h;cases a with
 | str sep=>
  cases ds with
  |nil=>exact h.elim|cons d ds=>
   cases ds with
   |cons _ _=>cases d<;>exact h.elim|nil=>
    cases d with
    | ref n=>
     simp only[Z2]at h;cases hn:M[n]? with
     |none=>simp only[hn]at h;exact h.elim|some ob=>
      cases ob with
      |dct _=>simp only[hn]at h;exact h.elim|cO _=>simp only[hn]at h;exact h.elim|ins _ _=>simp only[hn]at h;exact h.elim|lst z=>
       simp only[hn]at h;cases hs:jj z with
       |none=>simp only[hs]at h;exact h.elim|some ts=>
        simp only[hs]at h;split at h
        .rename_i hz;have:=ra.str_inv;subst this;obtain⟨w',ws,rfl,r1,r2⟩:=rd.cons_inv;have:=r2.nil_inv;subst this;obtain⟨p,hp,rfl⟩:=r1.dZ;obtain⟨t,rfl⟩:=rx;obtain⟨u,rfl,ru⟩:=vals1 rs;cases ru;obtain⟨vs,e,rv⟩:=S.obj n _ p hn hp;obtain⟨its,rr,pl,zl⟩:=I.list (bK.of e);obtain⟨l,rfl,el⟩:=Zg7 hs rv rr;refine SC.join pl.isList el (ZrP hz) λt' k=>⟨.str _,H,I.tok _,⟨t',rfl⟩,?_⟩;rw[Txt.join,StrLaws.glued_eq_join,Qn];exact Zr.ok h S Rep.str
        .exact h.elim
    |_=>exact h.elim
 |_=>exact h.elim
theorem Zf9(ho:C3 X o f)(ha:CA X (e::es) gl)(hbase:sH o "join" X.env (aA o X.env)=aA o X.env:=by rfl)(hfew:((bI cpos (Yk (e::es) X.env)).all (λx=>!x.1)&&(ju cpos (jt [] X.env)).all (λx=>x.1.isSome)
   &&decide ((e::es).length+([]:List Keyword).length+(if([]:List Keyword).isEmpty then 0 else 1)<30))=true:=by rfl)(hline:(apos.endLine==cpos.line)=true:=by rfl)(hs:Yk (e::es) X.env=(false,aA e X.env)::Yk es X.env:=by rfl)(hplain:(bI cpos (Yk es X.env)).any (·.1)=false:=by rfl):
  C3 X (.Call (.Attribute o "join" apos) (e::es) [] cpos) (cL fY vK f gl):=
 (Ih Mq PySem.F.slot_str_join PySem.F.type_str_join ZqY ho ha hbase hfew hline hs hplain).imp (Jt Qg)
end
section
variable {X:Cx} {a b c e o:Expr} {es:List Expr} {pos p apos cpos:aF} {f g h:E3} {gl:bW}
theorem ZlN{prog:Yz}{w:aD}{x:aj}{t:dX}{Q:Yd->Yg->Prop}{y:aj}{u:dX}(hy:(y.length==0)=false)(hz:x.length+2<=Y6)(h:∀(l:List (aj×dX)) (k:Nat),l.map (·.1)=Txt.split x y->l.length<=x.length+2->Q (.ref s.heap.objs.size) {s with heap:=s.heap.push {cls:=.type "list",data:=.seq (Gh l).toArray},toks:=k}):
  Y1 (Y9 prog w) A (call (.builtin "str.split") [.str x t,.str y u]) Q E s:=by
 have e1:=StrLaws.occ_length_le x y 0 x.length (x.length+1);have e2:=length_partsBetween x (zq x y 0 x.length (x.length+1)) y.length;have hn:(VH x (zq x y 0 x.length (x.length+1)) y.length).length<=Y6:=lD 3 0x300321b2c01a2c101a1c021 T1 e2 e1 hz;cases h1:(decide (x.length<y.length)|| decide (VJ x<VJ y))with
 | true=>
  exact Ge Mt (yS s x t) Ms (Mr (.str x t) (.str y u)) (meets_str_split_cannot_occur x y t u h1)
   (h [(x,t)] s.toks (if_pos h1).symm (by simp))
 | false=>
  cases hf:(zq x y 0 x.length (x.length+1)).isEmpty with
  | true=>
   exact Ge Mt (yS s x t) Ms (Mr (.str x t) (.str y u)) (meets_str_split_not_found x y t u h1 hy hf)
    (h [(x,t)] s.toks ((if_neg (ne_true_of_eq_false h1)).trans (if_pos hf)).symm (by simp))
  |false=>refine Ge Mt (yS s x t) Ms (Mr (.str x t) (.str y u)) (meets_str_split_sep x y t u h1 hy hf (lB 1 1099815390209 T1 hz) hn) ?_;rw[strsFrom_eq];refine h (numbered s.toks _) _ ((numbered_texts s.toks _).trans ((if_neg (ne_true_of_eq_false h1)).trans (if_neg (ne_true_of_eq_false hf))).symm) ?_;have e3:=congrArg tD (numbered_texts s.toks (VH x (zq x y 0 x.length (x.length+1)) y.length));rw[Yn]at e3;exact lD 3 0x21b3c00a3c201a2c1211021 T1 e3 e2 e1
theorem ZgJ:cj X (.type "int") (λxs H Q=>∃x n,xs=[.str x]/\intText? x=Ya n/\x.length<=640/\Q (.int n) H):=by intro pins s σ H xs us Q I r h;obtain⟨x,n,rfl,hn,hz,q⟩:=h;obtain⟨u,rfl,t,rfl⟩:=vals1 r;exact PySem.W.KIN.call_text hn hz ⟨.int n,H,I.tok _,⟨_,rfl⟩,q⟩
theorem Zq4:cj X (.type "int") (rB X.K vM):=cj.imp (cj.or ZsV ZgJ) λxs H Q ak=>by
 obtain⟨ι,M,ds,S,rd,h⟩:=ak
 match ds,rd,h with
 | [.str x],rd,h=>
  obtain⟨v,rfl,r⟩:=v6 rd;simp only[Z3,Z4]at h;cases hn:FZ ⟨x.toArray⟩with
  |none=>rw[hn]at h;exact h.elim|some n=>
   rw[hn]at h;dsimp only at h;split at h
   .rename_i hz;exact .inr ⟨_,n,by rw[r.str_inv],hn,by simpa[oH]using hz,Zr.ok h S Rep.int⟩
   .exact h.elim
 |[],rd,h=>exact h.elim|[.int i],rd,h=>exact .inl ⟨ι,M,_,S,rd,h⟩|[.bl i],rd,h=>exact .inl ⟨ι,M,_,S,rd,h⟩|[.non],rd,h=>exact h.elim
 |[.tup _],rd,h=>exact h.elim|[.aV _],rd,h=>exact h.elim|[.ref _],rd,h=>exact h.elim|.str _::_::_,rd,h=>exact h.elim
 | .int _::_::_,rd,h=>exact h.elim|.bl _::_::_,rd,h=>exact h.elim|.non::_::_,rd,h=>exact h.elim|.tup _::_::_,rd,h=>exact h.elim
 | .aV _::_::_,rd,h=>exact h.elim|.ref _::_::_,rd,h=>exact h.elim
theorem Qo{K:Yb}{H:Hp}{ι:List Yl}:∀(l:List (aj×dX)),Vals (l.map λp=>V.str p.1) (Gh l)/\Zo K H ι ((l.map λp=>p.1.cps.toList).map D.str) (l.map λp=>V.str p.1)
 |[]=>⟨.nil,Zo.nil⟩|p::l=>⟨.cons ⟨p.2,rfl⟩ (Qo (K:=K) (H:=H) (ι:=ι) l).1,Zo.cons (Rep.str (x:=p.1.cps.toList)) (Qo l).2⟩
theorem m_split:qC X "str.split" (rM X.K vL):=by
 intro pins s σ H x xs v us Q I rx rs h;obtain⟨ι,M,a,ds,S,ra,rd,h⟩:=h;cases a with
 | str z=>
  cases ds with
  |nil=>exact h.elim|cons d ds=>
   cases ds with
   |cons _ _=>cases d<;>exact h.elim|nil=>
    cases d with
    | str y=>
     simp only[Pa]at h;split at h
     .rename_i hz;have:=ra.str_inv;subst this;obtain⟨w',ws,rfl,r1,r2⟩:=rd.cons_inv;have:=r2.nil_inv;subst this;have:=r1.str_inv;subst this;obtain⟨t,rfl⟩:=rx;obtain⟨u,rfl,ru⟩:=vals1 rs;obtain⟨t',rfl⟩:=ru;have zl:=nP;refine ZlN ?_ ?_ λl k hl hn=>?_
      .have:=hz.1;simp[oH];intro e;subst e;simp at this
      .simp only[oH,Yo];exact Ys hz.2 zl
      .have hq:=I.fresh;obtain⟨v1,r'⟩:=Qo (K:=X.K) (H:=H) (ι:=ι) l;have e1:(l.map λp=>p.1.cps.toList)=nO z y:=by
        rw[nO,←hl,tu];rfl
       rw[e1]at r';obtain⟨x2,S2,r2⟩:=S.lst hq r';refine⟨.ref s.heap.objs.size,_,I.laid (λb o' e=>Yh _ e) (Yq _) (show bR X.prog X.w _ _ _ (.lst (l.map λp=>V.str p.1))from⟨?_,Gh l,_,v1,Yu _ rfl⟩),rfl,h _ _ _ x2 S2 r2⟩;simp only[Yn,oH,Yo]at hn ⊢;exact lD 3 0x300221b1c01320121b1c001 T1 hn zl hz.2
     .exact h.elim
    |_=>exact h.elim
 |_=>exact h.elim
theorem Zfh(ho:C3 X o f)(ha:CA X (e::es) gl)(hbase:sH o "split" X.env (aA o X.env)=aA o X.env:=by rfl)(hfew:((bI cpos (Yk (e::es) X.env)).all (λx=>!x.1)&&(ju cpos (jt [] X.env)).all (λx=>x.1.isSome)
   &&decide ((e::es).length+([]:List Keyword).length+(if([]:List Keyword).isEmpty then 0 else 1)<30))=true:=by rfl)(hline:(apos.endLine==cpos.line)=true:=by rfl)(hs:Yk (e::es) X.env=(false,aA e X.env)::Yk es X.env:=by rfl)(hplain:(bI cpos (Yk es X.env)).any (·.1)=false:=by rfl):
  C3 X (.Call (.Attribute o "split" apos) (e::es) [] cpos) (cL fY vL f gl):=
 (Ih Mq PySem.F.slot_str_split PySem.F.type_str_split m_split ho ha hbase hfew hline hs hplain).imp (Jt Qg)
end
def Zsc(K:Yb)(H:Hp)(ι:List Yl)(it:Jc)(J:It):Prop:=∀(i:Nat) H2 ι2 M2,Ext K H ι H2 ι2->Zu K H2 ι2 M2->gQ it.lk M2=true ->
 (∀d,it.items[i]?=Ya d->J.go i H2/\∀x H3,J.HW i H2 x H3->Ext K H2 ι2 H3 ι2/\Zu K H3 ι2 M2/\Rep K H3 ι2 d x)/\(i=it.items.length->J.stop i H2)
def yj(K:Yb)(H:Hp)(ι:List Yl)(R:It->Hp->Prop)(r:R3 Jc):Prop:=match r with
 | .ok it M'=>∀J H' ι',Ext K H ι H' ι'->Zu K H' ι' M'->Zsc K H' ι' it J->R J H'|_=>False
def tIL(K:Yb)(g:qO):TI:=λσ H R=>∃ι M env,Zu K H ι M/\aY K H ι env σ/\yj K H ι R (g env M)
def CIL(X:Cx)(tg e:Expr)(g:qO):Prop:=PI X tg e (tIL X.K g)
theorem yj.bind{Q:It->Hp->Prop}{r:R3 α}{k:α->Store->R3 Jc}(h:yj K H ι Q (r.bind k)):∃a M,r= .ok a M/\yj K H ι Q (k a M):=by
 cases r with
 |ok a M=>exact⟨a,M,rfl,h⟩|exc x M=>exact h.elim|bad=>exact h.elim
section
variable {X:Cx} {tg:Expr} {pos:aF}
theorem ZoZ{iter:Expr}{body:List Ydr}{i:qO}{g:G3}{u:S3}(DY:X.xe=λ_ _=>False)(hc:X.calm=true)(hi:CIL X tg iter i)(hg:CG X tg g)(hb:nU X body u)(hs:∀x,wQ iter X.env x=pure x:=by intro _;rfl):
  CS X (.For tg iter body [] pos) (DQ i g u):=(Ia (by rw[DY];exact Ws) hc hi hg hb hs).imp λD σ H ak=>by
 obtain⟨ι,M,env,S,E,h⟩:=ak;unfold DQ at h;cases q:i env M with
 |exc x M1=>rw[q]at h;exact h.elim|bad=>rw[q]at h;exact h.elim|ok it M1=>
  rw[q]at h;refine⟨ι,M,env,S,E,?_⟩;rw[q];intro J H1 ι1 x1 S1 ok;refine⟨λi m σ2 H2=>m=it.items.length-i/\i<=it.items.length/\∃ι2 M2 eV,Ext X.K H1 ι1 H2 ι2/\Zu X.K H2 ι2 M2/\aY X.K H2 ι2 eV σ2/\j4 X.K H2 ι2 D (iI it.lk g u (it.items.drop i) eV M2),
   ⟨_,rfl,jy _,ι1,M1,env,Ext.refl,S1,E.mono x1,j4.up x1 h⟩,?_⟩
  rintro i m σ2 H2 ⟨rfl,hi,ι2,M2,eV,x2,S2,E2,h2⟩;by_cases hlt:i<it.items.length
  .have hd:it.items[i]?=Ya it.items[i]:=by simp[hlt]
   rw[Cg hlt]at h2
   first|rw[vO]at h2|rw[vN]at h2
   by_cases lk:gQ it.lk M2=true
   .rw[if_pos lk]at h2;obtain⟨go,yl⟩:=(ok i H2 ι2 M2 x2 S2 lk).1 _ hd;cases eg:g it.items[i] eV with
    |none=>rw[eg]at h2;exact h2.elim|some jq=>
     rw[eg]at h2;refine .inr ⟨go,λσ' H'=>∃ι3 M3 gG,Ext X.K H2 ι2 H' ι3/\Zu X.K H' ι3 M3/\aY X.K H' ι3 gG σ'/\j4 X.K H' ι3 D (iI it.lk g u (it.items.drop (i+1)) gG M3),
      λσ' H' ⟨ι3,M3,gG,x3,S3,E3,h3⟩=>⟨it.items.length-(i+1),lD 2 0x30113c2012a1c0c21 T1 (p8 (lB 1 6991908881 T1 hlt)) (qp _ _),rfl,hlt,ι3,M3,gG,x2.trans x3,S3,E3,h3⟩,λx H' hy=>?_⟩
     obtain⟨x7,S7,rx⟩:=yl x H' hy;refine⟨ι2,M2,eV,_,jq,S7,E2.mono x7,rx,eg,λσ' E'=>⟨ι2,M2,jq,S7,E',?_⟩⟩;have h2':=j4.up x7 h2;cases qu:u jq M2 with
     |nx e' M'=>simp only[qu]at h2';exactλσ' H' ι' x' S' E'=>⟨ι',M',e',x7.trans x',S',E',h2'.up x'⟩|ct e' M'=>simp only[qu]at h2';exactλσ' H' ι' x' S' E'=>⟨ι',M',e',x7.trans x',S',E',h2'.up x'⟩|bk e' M'=>simp only[qu]at h2';exact h2'|rt d M'=>simp only[qu]at h2';exact h2'
     |exc x' M'=>simp only[qu]at h2';exact h2'.elim|bad=>simp only[qu]at h2';exact h2'.elim
   .rw[if_neg lk]at h2;exact h2.elim
  .have e0:i=it.items.length:=eZ hi (jc hlt);subst e0;rw[Cj]at h2
   first|rw[vO]at h2|rw[vN]at h2
   by_cases lk:gQ it.lk M2=true
   .rw[if_pos lk]at h2;exact .inl ⟨(ok _ H2 ι2 M2 x2 S2 lk).2 rfl,h2 σ2 H2 ι2 Ext.refl S2 E2⟩
   .rw[if_neg lk]at h2;exact h2.elim
end
theorem _root_.L2.Inv.Fl{h':ao}{t':Nat}(I:Inv X pins σ H s)(k:∀b o,b∉fp->s.heap.get? b=Ya o->h'.get? b=Ya o)(hf:∀b∈fp,gK X pins H b):
  Inv X pins σ H {s with heap:=h',toks:=t'}:=by
 have Dh:∀b u,H b=Ya u->b∉fp:=λb u e z=>by rw[(hf b z).1]at e;cases e
 refine I.step (g':=s.gens) (d':=s.drawn) (ch:=fp) (λb hb=>⟨(hf b hb).2.2.2.1,(hf b hb).2.1,(hf b hb).2.2.2.2.1,(hf b hb).2.2.2.2.2⟩) (λb o _ _ hc e _=>k b o hc e) (λb o _ _ hc e _=>⟨o.slots,k b o hc e⟩) (λ_ _ _ _ n=>n)
  (λb o hc e=>⟨o,k b o hc e⟩) (λ_ _ e=>e) (λ_ _ _ e=>e) (λb ps e=>⟨#[],by rw[e];simp⟩) (λm hm=>?_) (λb u e=>?_) I.bare
 .obtain⟨o,es,ep,ho,r⟩:=hm;exact⟨o,es,ep,k _ o (λz=>(hf _ z).2.1 rfl) ho,r⟩
 .refine(I.hok b u e).stay (λc v hc q=>k c v ?_ q) (λ_ q=>q) λ_ _ q=>q;rcases hc with z|z
  .rw[z];exact Dh b u e
  .exact Dh c _ z
theorem Zld{h' h'':ao}{e:Yl}{x:V}{tk tk':Nat}(I:Inv X pins σ H s)(hf:∀b∈[e,it],gK X pins H b)(he:e<s.heap.objs.size)(hi:it<s.heap.objs.size)(ru:RelV x u)(hT:h'.get? s.heap.objs.size=Ya {cls:=.type "tuple",data:=.seq #[.int i tk,u]})(hk:∀b o,b≠e->b≠it->s.heap.get? b=Ya o->h'.get? b=Ya o)(hs:y_ e h' h''):
  Inv X pins σ (upd H s.heap.objs.size (.tup [.int i,x])) {s with heap:=h'',toks:=tk'}/\∀b∈[e,it],upd H s.heap.objs.size (.tup [.int i,x]) b=Yi:=by
 have hn:∀b∈[e,it],upd H s.heap.objs.size (.tup [.int i,x]) b=Yi:=λb hb=>by
  have:b≠s.heap.objs.size:=by
   simp only[Y5,uY,or_false]at hb;rcases hb with rfl|rfl
   .exact dM he
   .exact dM hi
  rw[Zk this];exact(hf b hb).1
 refine⟨?_,hn⟩;have I1:Inv X pins σ (upd H s.heap.objs.size (.tup [.int i,x])) {s with heap:=s.heap.push {cls:=.type "tuple",data:=.seq ([.int i tk,u]:List Yd).toArray},toks:=s.toks}:=I.laid (t':=s.toks) (λb o e=>Yh _ e) (Yq _) (show bR X.prog X.w _ _ _ (.tup [.int i,x])from⟨by rw[iy];show 2<=_;decide,[.int i tk,u],.cons ⟨tk,rfl⟩ (.cons ru .nil),qt.new _ _⟩);have I3:=I1.Fl (t':=tk') (h':=h'') (fp:=[e,it]) (λb o hb q=>by
  have hbe:b≠e:=λz=>hb (by simp[z]);have hbi:b≠it:=λz=>hb (by simp[z]);rcases Ur q with⟨rfl,rfl⟩|q
  .exact(hs.2 _ (Cp he)).trans hT
  .exact(hs.2 _ hbe).trans (hk b o hbe hbi q)) λb hb=>⟨hn b hb,(hf b hb).2⟩
 exact I3
theorem boot_enumerate:fQ "enumerate" =Ya (.type "enumerate"):=by decide +kernel
open AutoSeq1 (wpAny_loadPart')
set_option maxRecDepth 100000
section
variable {prog:Yz} {w:aD} {A:aU} {E:Yd->Yg->Prop} {s:Yg}
theorem ZeE{it t:Yl}{x:Yd}{Q:Yd->Yg->Prop}(hit:s.heap.IsTupleIter it t i)(ht:s.heap.IsTuple t items)(hx:items[i]?=Ya x)(hQ:∀h',h'.IsTupleIter it t (i+1)->y_ it s.heap h'->Q x {s with heap:=h'}):Y1 (Y9 prog w) A (qe (.ref it)) Q E s:=by
 obtain⟨o,ho,hc,hd⟩:=id hit;obtain⟨ol,hol,_,nl,hdl⟩:=ht;unfold qe;refine Yc (uM (name:=jd "__next__") hit.typeIs Hi
  (uO Hi hit.typeIs VR ?_ (V1 _)))
 show Y1 _ _ (sV (.ref it) 0>>=_) _ _ s;refine Yc (fU ho hd (x:=.ref t) rfl ?_);show Y1 _ _ (if(Value.ref t==Value.none)=true then _ else _) _ _ s;rw[if_neg (show¬((Value.ref t==Value.none)=true)from oG)];show Y1 _ _ (sV (.ref it) 1>>=_) _ _ s;refine Yc (fU ho hd (x:=.int i 0) rfl ?_);show Y1 _ _ (seqItems? (.ref t)>>=_) _ _ s;refine Yc (uP hol hdl ?_);simp only[G7,hx];refine Yc (BX ho hd (by simp) (Ym ⟨x,rfl,Ym (hQ _ ?_ (Wt ..))⟩));exact⟨_,yZ _ ho (M7 (Cz hd _)),(Wc ..).trans hc,by rw[Cz hd];simp[iZ]⟩
theorem Zfa{it t:Yl}{Q:Yd->Yg->Prop}(hh:A.handled=Yi)(hit:s.heap.IsTupleIter it t i)(ht:s.heap.IsTuple t items)(hx:items[i]?=Yi)(hE:∀h' e,Heap.ExtBut it s.heap h'->(∃o,h'.get? e=Ya o/\o.cls= .type "StopIteration")->E (.ref e) {s with heap:=h'}):Y1 (Y9 prog w) A (qe (.ref it)) Q E s:=by
 obtain⟨o,ho,hc,hd⟩:=id hit;obtain⟨ol,hol,_,nl,hdl⟩:=ht;unfold qe;refine Yc (uM (name:=jd "__next__") hit.typeIs Hi
  (uO Hi hit.typeIs VR ?_ (V1 _)))
 show Y1 _ _ (sV (.ref it) 0>>=_) _ _ s;refine Yc (fU ho hd (x:=.ref t) rfl ?_);show Y1 _ _ (if(Value.ref t==Value.none)=true then _ else _) _ _ s;rw[if_neg (show¬((Value.ref t==Value.none)=true)from oG)];show Y1 _ _ (sV (.ref it) 1>>=_) _ _ s;refine Yc (fU ho hd (x:=.int i 0) rfl ?_);show Y1 _ _ (seqItems? (.ref t)>>=_) _ _ s;refine Yc (uP hol hdl ?_);simp only[G7,hx];refine Yc (Gf (Yc (BX ho hd (by simp) ?_)));show Y1 _ _ (newExc (.type "StopIteration") []>>=_) _ _ _;refine Yc ?_;simp only[newExc,newTuple];refine Yc (uN ?_ (by size_fits));refine Yc (m:=firstArgMember _ _) (wpAny_of_eq (a:=Value.none) (by first|rfl|(simp only[firstArgMember];rfl)) ?_);refine uN ?_ (by size_fits);simp only[raiseNew];refine Yc (wpAny_handled ?_)
 first|rw[show A.in1.handled=Yi from hh]|rw[hh]
 refine Yc (Ym (wpAny_throw ?_));exact hE _ _ (((Wt ..).extBut.push _).push _) ⟨_,Yu _ rfl,rfl⟩
end
end L3
namespace L3
open PySem PySem.Spec PyProof.Rows L2
set_option maxRecDepth 100000
noncomputable def Itz(S T:Hp->List V->Prop):It:=⟨λi H=>∃xs ys x y,S H xs/\T H ys/\xs[i]?=Ya x/\ys[i]?=Ya y,λi H x H'=>∃A a b,x= .ref A/\H A=Yi/\H'=upd H A (.tup [a,b])/\(∀xs,S H xs->xs[i]?=Ya a)/\∀ys,T H ys->ys[i]?=Ya b,
 λi H=>∃xs ys,S H xs/\T H ys/\(xs.length<=i\/ys.length<=i)⟩
theorem Zl4{X:Cx}{pins:List (Yl×aq)}{σ:St}{H:Hp}{s:Yg}{h' h'':ao}{fp:List Yl}{x y:V}{u v:Yd}{tk':Nat}(I:Inv X pins σ H s)(hf:∀b∈fp,gK X pins H b)(hlt:∀b∈fp,b<s.heap.objs.size)(ru:RelV x u)(rv:RelV y v)(hT:h'.get? s.heap.objs.size=Ya {cls:=.type "tuple",data:=.seq #[u,v]})(hk:∀b o,b∉fp->s.heap.get? b=Ya o->h'.get? b=Ya o)(hs:∀b o,b∉fp->h'.get? b=Ya o->h''.get? b=Ya o):
  Inv X pins σ (upd H s.heap.objs.size (.tup [x,y])) {s with heap:=h'',toks:=tk'}/\∀b∈fp,upd H s.heap.objs.size (.tup [x,y]) b=Yi:=by
 have hn:∀b∈fp,upd H s.heap.objs.size (.tup [x,y]) b=Yi:=λb hb=>by rw[Zk (dM (hlt b hb))];exact(hf b hb).1
 refine⟨?_,hn⟩;have I1:Inv X pins σ (upd H s.heap.objs.size (.tup [x,y])) {s with heap:=s.heap.push {cls:=.type "tuple",data:=.seq ([u,v]:List Yd).toArray},toks:=s.toks}:=I.laid (t':=s.toks) (λb o e=>Yh _ e) (Yq _) (show bR X.prog X.w _ _ _ (.tup [x,y])from⟨by rw[iy];show 2<=_;decide,[u,v],.cons ru (.cons rv .nil),qt.new _ _⟩);have nT:s.heap.objs.size∉fp:=λz=>u6 _ (hlt _ z);have I3:=I1.Fl (t':=tk') (h':=h'') (fp:=fp) (λb o hb q=>by
  rcases Ur q with⟨rfl,rfl⟩|q
  .exact hs _ _ nT hT
  .exact hs _ _ hb (hk b o hb q)) λb hb=>⟨hn b hb,(hf b hb).2⟩
 exact I3
section
variable {X:Cx} {es:List Expr} {k:Nat} {a b:Expr} {p pos tpos:aF} {f g:E3}
theorem ZlI:fQ "zip" =Ya (.type "zip"):=by decide +kernel
end
open PySem PySem.W PyProof.Rows
section
variable {M:Model} {A:aU} {E:Yd->Yg->Prop} {G:Yg->Prop}
def TT(M:Model)(A:aU)(E:Yd->Yg->Prop)(G:Yg->Prop){α:Type}(m:StateT SortSt lF α)(Q:α->SortSt->Prop)(st:SortSt):Prop:=∀s,G s->kasC M A E m (λa st' s'=>Q a st'/\G s') st s
end
end L3
namespace L3
open PySem PySem.Spec PyProof.Rows L2
noncomputable abbrev nm(f:List Nat):aj:=⟨f.toArray⟩
variable{f:List Nat}
theorem ZpS{g:List Nat}(h:nm f=nm g):f=g:=by have:=congrArg (λs:aj=>s.cps.toList) h;simpa using this
section
variable {K:Yb} {H H':Hp} {ι ι':List Yl} {fs:List (List Nat×D)} {gs:List (aj×V)}
theorem gj.nil:gj K H ι [] []:=⟨rfl,Zo.nil⟩
theorem gj.nil_inv(h:gj K H ι [] gs):gs=[]:=Gu.mp h.1
theorem gj.cons_inv{d:D}(h:gj K H ι ((f,d)::fs) gs):∃v gs',gs=(nm f,v)::gs'/\Rep K H ι d v/\gj K H ι fs gs':=by
 cases gs with
 |nil=>cases h.1|cons p gs'=>obtain⟨g,v⟩:=p;obtain⟨h1,h2⟩:=h;rw[Yy,Yy]at h1 h2;obtain⟨e1,e2⟩:=oJ h1;obtain⟨v',ws,e,r,q⟩:=h2.cons_inv;obtain⟨rfl,rfl⟩:=oJ e;exact⟨v,gs',by rw[show g=nm f from e1],r,e2,q⟩
theorem gj.cons{f:List Nat}{d:D}{v:V}(r:Rep K H ι d v)(h:gj K H ι fs gs):gj K H ι ((f,d)::fs) ((nm f,v)::gs):=⟨by rw[Yy,Yy,h.1],Zo.cons r h.2⟩
theorem gj.length(h:gj K H ι fs gs):gs.length=fs.length:=by have:=congrArg tD h.1;simpa using this
theorem gj.put{d:D}{v:V}(r:Rep K H ι d v):∀{fs:List (List Nat×D)} {gs:List (aj×V)},gj K H ι fs gs->gj K H ι (Pn f d fs) (Ob (nm f) v gs)
 |[],_,h=>by rw[h.nil_inv];exact gj.cons r gj.nil|(g,x)::fs,_,h=>by
  obtain⟨w,gs',rfl,r',t⟩:=h.cons_inv;unfold Pn Ob;by_cases e:g=f
  .subst e;rw[if_pos rfl,if_pos rfl];exact gj.cons r t
  .rw[if_neg e,if_neg λq=>e (ZpS q)];exact gj.cons r' (t.put r)
end
noncomputable def Zkz(s:Ydr):List Ydr:=match s with
 | .ClassDef _ _ _ b _ _ _ _ _ _ _=>b|_=>[]
variable{H:Hp}{C:Yl}
theorem Qp{P:Yz}{w:aD}{h:ao}{e:Yl}{dd:Option Yl}(x:vQ e C dd h):bR P w H h e (jH e C dd):=⟨x,(let⟨o,_,q,_⟩:=x;⟨o,q⟩),λ_ _ z k=>let⟨o,vs,a,b,c⟩:=z;⟨o,vs,k o a,b,c⟩⟩
theorem Dj{P:Yz}{w:aD}{h:ao}{a:Yl}{o:HO}(x:bR P w H h a o):∃u,h.get? a=Ya u:=by
 cases o with
 |lst xs=>obtain⟨_,_,_,_,e⟩:=x;exact⟨_,e⟩|tup xs=>obtain⟨_,_,_,o,e,_⟩:=x;exact⟨o,e⟩|dK kvs=>obtain⟨_,_,_,_,o,_,_,e,_⟩:=x;exact⟨o,e⟩|dT kvs=>obtain⟨_,_,_,_,o,_,_,e,_⟩:=x;exact⟨o,e⟩
 |set S n=>obtain⟨o,_,_,_,e,_⟩:=x;exact⟨o,e⟩|ins C dx fs=>obtain⟨_,_,_,e,_⟩:=x;exact⟨_,e⟩|own y=>exact x|xd fs=>obtain⟨_,⟨o,_,_,e,_⟩,_⟩:=x;exact⟨o,e⟩
 |Hy lo hi=>obtain⟨_,_,_,e⟩:=x;exact⟨_,e⟩|bA ob u=>obtain⟨e,_⟩:=x;exact⟨_,e⟩|vf ps=>exact⟨_,x⟩|met f y=>exact⟨_,x⟩
 |ext φ=>exact x.2.1
def Dct(e:Yl)(dd:Option Yl)(h:ao):Prop:=∃o,h.get? e=Ya o/\o.dict=dd
def qY(B:ao)(l:List b7)(e C:Yl)(dd:Option Yl)(a0:Yd)(h:ao):Prop:=B.StaysIn h/\B.get? e=Yi/\h.FunFrames B l/\Dct e dd h/\∃fl,h.TracedAtW B e (.ref C) a0 fl
def qZ(B:ao)(l:List b7)(e C:Yl)(dd:Option Yl)(h:ao):Prop:=∃a0,qY B l e C dd a0 h\/(B.StaysIn h/\B.get? e=Yi/\h.FunFrames B l/\∃oe vs,h.get? e=Ya oe/\oe.cls= .ref C/\oe.data= .fields vs/\vs[0]?=Ya a0/\vs[1]?=Ya .none/\oe.dict=dd)
section
variable {B h h':ao} {l:List b7} {e C:Yl} {dd:Option Yl}
theorem qY.Aj{a0:Yd}(f:qY B l e C dd a0 h):vQ e C dd h:=by obtain⟨_,_,_,⟨o',a',d'⟩,_,o,vs,_,_,_,a,b,c,_⟩:=f;rw[a]at a';cases a';exact⟨_,vs,a,b.1,c,d'⟩
theorem qY.tail{a0:Yd}{env:b7}(f:qY B (env::l) e C dd a0 h):qY B l e C dd a0 h:=let⟨a,b,⟨_,_,c⟩,d⟩:=f;⟨a,b,c,d⟩
theorem qZ.stays(f:qZ B l e C dd h):B.StaysIn h:=by
 obtain⟨a0,f|f⟩:=f
 .exact f.1
 .exact f.1
theorem qZ.Aj(f:qZ B l e C dd h):vQ e C dd h:=by
 obtain⟨a0,f|⟨_,_,_,oe,vs,a,b,c,_,_,d⟩⟩:=f
 .exact f.Aj
 .exact⟨oe,vs,a,b,c,d⟩
end
section
variable {M:Model} {A:aU} {E:Yd->Yg->Prop} {s:Yg} {B:ao} {env:b7} {outer l:List b7} {L e C:Yl} {dd:Option Yl} {Q:Unit->Yg->Prop}
theorem Zm9(f:Array Yd->Array Yd)(o:aq):(xj f o).dict=o.dict:=by obtain⟨c,d,da,sl⟩:=o;cases da<;>rfl
theorem Zkp{oe:aq}{vs:Array Yd}{head a0:Yd}{hadNext:Bool}(hfr:A.frames=Ya (env::outer))(hl:s.heap.FunFrames B (env::outer))(hf:env.frame=Ya L)(he:s.heap.get? e=Ya oe)(hkb:B.StaysIn s.heap)(hen:B.get? e=Yi)(hc:oe.cls= .ref C)(hd:oe.data= .fields vs)(hsz:1<vs.size)(h0:vs[0]?=Ya a0)(hdd:oe.dict=dd)(hQ:∀h',qY B (env::outer) e C dd a0 h'->s.heap.UpToSlots h'->Q () {s with heap:=h'}):
  Y1 M A (do let a ←frameOf env;let pl ←entryPlaceOf L hadNext;let b ←Wu head a .none (iZ L) .none pl;setField (.ref e) 1 b) Q E s:=by
 have AgN:e∉(env::outer).filterMap (·.frame):=λz=>by obtain⟨_,o,q,nf⟩:=hl.mem z;rw[he]at q;cases q;exact nf vs hd
 refine Yc (wpAny_frameOf_fun hfr hl hf λk only=>Yc (wpAny_entryPlaceOf λpl hpl=>?_));unfold Wu newFields;refine Yc (uN ?_ (hpl.sizeOk5 _ _ _ _ _));have ke:k.get? e=Ya oe:=(only.2.1 e AgN).trans he;have kB:B.StaysIn k:=λb o q=>(only.2.1 b λz=>by rw[(hl.mem z).1]at q;cases q).trans (hkb b o q);generalize hT:({cls:=.type "traceback",dict:=Yi,data:=.fields ([head,.ref L,.none,iZ L,.none]++(if pl.isEmpty then Yt 6 Value.none else pl)).toArray}:aq)=tb;have ke2:=Yh (h:=k) tb ke;have ne:k.objs.size≠e:=Cp (Yv ke);have tbd:tb.data= .fields ([head,.ref L,.none,iZ L,.none]++(if pl.isEmpty then Yt 6 Value.none else pl)).toArray:=by rw[←hT]
 have fr:tb.isFreed=false:=by rw[←hT];rfl
 have d3:=Cz hd (·.setIfInBounds 1 (Value.ref k.objs.size));have e3:=yZ (xj (·.setIfInBounds 1 (Value.ref k.objs.size))) ke2 (M7 d3);have t3:=(wW (k.push tb) (xj (·.setIfInBounds 1 (Value.ref k.objs.size))) (cP ne)).trans (Yu k fr);have stay:∀b o,b≠e->k.get? b=Ya o->((k.push tb).update e (xj (·.setIfInBounds 1 (Value.ref k.objs.size)))).get? b=Ya o:=λb o hb q=>(wW _ _ (cP hb)).trans (Yh _ q);have nr:∀b o,s.heap.get? b=Ya o->(∀vs,o.data≠ .fields vs)->b≠e:=λb o q nf z=>by rw[z,he]at q;cases q;exact nf vs hd
 refine BX ke2 hd hsz (hQ _ ⟨λb o q=>stay b o (λz=>by rw[z,hen]at q;cases q) (kB b o q),hen,hl.of_keeps λb o q nf=>?_,⟨_,e3,?_⟩,iZ L,_,_,k.objs.size,_,_,e3,⟨(Wc _ _).trans hc,?_⟩,d3,?_,kB.fresh,ne,t3,tbd,?_⟩ λb o q nf=>?_)
 .obtain⟨sl,z⟩:=only.2.2 b o q;exact⟨_,stay b _ (nr b o q nf) z,rfl⟩
 .exact(Zm9 _ _).trans hdd
 .rw[V8 (by decide)];exact h0
 .simp[hsz]
 .first
   |(simp;done)
   |(rcases hpl with rfl|⟨_,_,_,_,_,_,_,rfl⟩<;>simp)
 .obtain⟨sl,z⟩:=only.2.2 b o q;exact⟨sl,stay b _ (nr b o q nf) z⟩
theorem ZmI(hfr:A.frames=Ya (env::outer))(hf:env.frame=Ya L)(f:qZ B (env::outer) e C dd s.heap)(hQ:∀h' a0,qY B (env::outer) e C dd a0 h'->s.heap.UpToSlots h'->Q () {s with heap:=h'}):Y1 M A (Ca (.ref e) env) Q E s:=by
 obtain⟨a0,f|⟨f1,f2,f3,oe,vs,he,hc,hd,h0,h1,hdd⟩⟩:=f
 .have f0:=f;obtain⟨f1,f2,f3,dc,fl,ht⟩:=f;by_cases q:fl=iZ L
  .rw[q]at ht;exact wpAny_noteFrame_againW hf ht (hQ s.heap a0 f0 (Heap.UpToSlots.refl _))
  .obtain⟨oe,vs,T,oT,ts,he,⟨hcls,h0⟩,hd,h1,hnT,hTe,hT,hdT,h3⟩:=ht;obtain⟨o',ho',hdd⟩:=dc;rw[he]at ho';cases ho';unfold Ca;simp only[hf];refine Yc (fU he hd h1 ?_);rw[if_pos (show(Value.ref T !=Value.none)=true from by simp)];refine Yc (fU hT hdT h3 ?_);rw[if_neg (show¬((fl==iZ L)=true)from by simpa using q)];refine Yc (BX hT hdT (Hj.mp h3).1 ?_);have other:∀b,b≠T->(s.heap.update T (xj (·.setIfInBounds 3 Value.none))).get? b=s.heap.get? b:=λb hb=>wW _ _ (cP hb);have nr:∀b o,s.heap.get? b=Ya o->(∀vs,o.data≠ .fields vs)->b≠T:=λb o hb hnf q=>by
    rw[q,hT]at hb;injection hb with hb;subst hb;exact hnf ts hdT
   exact Zkp hfr (f3.of_keeps λb o hb hnf=>⟨o,(other b (nr b o hb hnf)).trans hb,rfl⟩) hf ((other e (cP hTe)).trans he)
    (λb o hbo=>(other b λq=>by rw[q,hnT]at hbo;cases hbo).trans (f1 b o hbo)) f2 hcls hd (Hj.mp h1).1 h0 hdd λh' Ak sl=>hQ h' a0 Ak λb o hb hnf=>sl b o ((other b (nr b o hb hnf)).trans hb) hnf
 .unfold Ca;simp only[hf];refine Yc (fU he hd h1 ?_);rw[if_neg (by decide)];exact Zkp hfr f3 hf he f1 f2 hc hd (Hj.mp h1).1 h0 hdd λh' x y=>hQ h' a0 x y
theorem Qq{a0:Yd}{fo:Option Yl}(f:qY B l e C dd a0 s.heap)(hQ:∀h',qY B l e C dd a0 h'->s.heap.UpToSlots h'->Q () {s with heap:=h'}):Y1 M A (setFlight (.ref e) fo) Q E s:=by
 obtain⟨f1,f2,f3,⟨o',ho',hdd⟩,fl,oe,vs,T,oT,ts,he,hcls,hd,h1,hnT,hTe,hT,hdT,h3⟩:=f;rw[he]at ho';cases ho';have hsz:3<ts.size:=(Hj.mp h3).1;unfold setFlight;refine Yc (fU he hd h1 ?_);rw[if_pos (show(Value.ref T !=Value.none)=true from by simp)];generalize hv:(fo.elim Value.none λf=>iZ f)=fv;have other:∀b,b≠T->(s.heap.update T (xj (·.setIfInBounds 3 fv))).get? b=s.heap.get? b:=λb hb=>wW _ _ (cP hb);have nr:∀b o,s.heap.get? b=Ya o->(∀vs,o.data≠ .fields vs)->b≠T:=λb o hb hnf q=>by rw[q,hT]at hb;injection hb with hb;subst hb;exact hnf ts hdT
 exact BX hT hdT hsz (hQ _ ⟨λb o hbo=>(other b λq=>by rw[q,hnT]at hbo;cases hbo).trans (f1 b o hbo),f2,f3.of_keeps λb o hb hnf=>⟨o,(other b (nr b o hb hnf)).trans hb,rfl⟩,⟨_,(other e (cP hTe)).trans he,hdd⟩,fv,_,vs,T,_,_,(other e (cP hTe)).trans he,hcls,hd,h1,hnT,hTe,
  yZ _ hT (M7 (Cz hdT _)),Cz hdT _,by simp[hsz]⟩ λb o hb hnf=>⟨o.slots,(other b (nr b o hb hnf)).trans hb⟩)
theorem ZnV(hfr:A.frames=Ya (env::outer))(hf:env.frame=Ya L)(f:qZ B (env::outer) e C dd s.heap)(hQ:∀h',qZ B outer e C dd h'->s.heap.UpToSlots h'->Q () {s with heap:=h'}):Y1 M A (Gm env (.ref e)) Q E s:=by unfold Gm;exact Yc (ZmI hfr hf f λh1 a0 x y=>Qq x λh' z y'=>hQ h' ⟨a0,.inl z.tail⟩ (y.trans y'))
end
structure yo(B:ao)(fs ex:List Yl)(H₀:Hp)(h₀:ao)(H:Hp)(e:Yl):Prop where
 xu:∀b,H b≠Yi->b≠e->∃o,B.get? b=Ya o
 old:∀b o,h₀.get? b=Ya o->H₀ b=Yi->b∉fs->b∉ex->B.get? b=Ya o
 there:∀b o,h₀.get? b=Ya o->b∉fs->b∉ex->∃o',B.get? b=Ya o'
section
variable {B h h' h₀:ao} {fs ex:List Yl} {H H₀:Hp} {e C:Yl} {dd:Option Yl} {P:Yz} {w:aD}
theorem yo.hok(c:yo B fs ex H₀ h₀ H e)(ok:cJ P w H h)(he:H e=Ya (jH e C dd))(s1:B.StaysIn h)(s2:B.StaysIn h')(x:vQ e C dd h'):cJ P w H h':=λb u q=>by
 by_cases hb:b=e
 .subst hb;rw[he]at q;cases q;exact Qp x
 .refine(ok b u q).stay (λd v hd z=>?_) (λ_ z=>z) λ_ _ z=>z;have hd':H d≠Yi/\d≠e:=by
   rcases hd with rfl|hd
   .exact⟨by rw[q];simp,hb⟩
   .exact⟨by rw[hd];simp,by rintro rfl;rw[he]at hd;cases hd⟩
  obtain⟨o,ho⟩:=c.xu d hd'.1 hd'.2;have:=(s1 d o ho).symm.trans z;cases this;exact s2 d _ ho
theorem yo.un(c:yo B fs ex H₀ h₀ H e)(u:Un fs ex H₀ H h₀ h)(s2:B.StaysIn h')(sl:h.UpToSlots h')(nf:∀b∈fs,H₀ b=Yi/\∀o,h₀.get? b=Ya o->∀vs,o.data≠ .fields vs):Un fs ex H₀ H h₀ h' where
 keep:=λb o q n hb hx=>s2 b o (c.old b o q n hb hx)
 slot:=λb o q n hb hx=>by obtain⟨s,e1⟩:=u.slot b o q n hb hx;obtain⟨s',e2⟩:=sl b _ e1 ((nf b hb).2 o q);exact⟨s',e2⟩
 free:=u.free
 there:=λb o q hx=>by
  by_cases hb:b∈fs
  .obtain⟨s,e1⟩:=u.slot b o q (nf b hb).1 hb hx;obtain⟨s',e2⟩:=sl b _ e1 ((nf b hb).2 o q);exact⟨_,e2⟩
  .exact let⟨o',z⟩:=c.there b o q hb hx;⟨o',s2 b o' z⟩
 tups:=u.tups
 jo:=u.jo
 jO:=u.jO
end
noncomputable def jl(P:Yz)(w:aD):lO:=λouter H s E ev s'=>∃e C dd H' B,ev= .ref e/\s'.os=s.os/\qi s'.gens/\Un (frs outer) [] H H' s.heap s'.heap/\cJ P w H' s'.heap/\H' e=Ya (jH e C dd)/\
 qZ B outer e C dd s'.heap/\yo B (frs outer) [] H s.heap H' e/\E (.ref C) (Ya e) H'
def Jw(X:Cx)(e C:Yl)(H':Hp)(s':Yg):Prop:=∃dd,H' e=Ya (jH e C dd)/\∃B,qZ B X.stack e C dd s'.heap/\yo B X.fs X.ex X.H₀ X.s₀.heap H' e/\∀p∈X.pn,B.get? p.1=Ya p.2
def XW(X:Cx)(σ:St)(e C:Yl)(H':Hp):Prop:=∀pins s',Inv X pins σ H' s'->Jw X e C H' s'->X.xe (.ref e) s'
noncomputable def EX(X:Cx)(σ:St):XK:=λcv oe H'=>∀e C,cv= .ref C->oe=Ya e->XW X σ e C H'
section
variable {X:Cx} {pins:List (Yl×aq)} {σ:St} {H:Hp} {s s':Yg}
theorem Ed(I:Inv X pins σ H s){b:Yl}{o:aq}(q:X.s₀.heap.get? b=Ya o)(hb:b∉X.fs):b∉frs X.stack:=λz=>by
 rcases Y5.mp (I.wD b z)with e|e
 .exact absurd (Yw (Yv q) I.ok.above) (by rw[e];exact u6 _)
 .exact hb e
theorem Zmr(I:Inv X pins σ H s):∀b∈X.fs,X.H₀ b=Yi/\∀o,X.s₀.heap.get? b=Ya o->∀vs,o.data≠ .fields vs:=λb hb=>⟨I.ok.oK b hb,λo q=>by obtain⟨_,o',ho,hd⟩:=I.ok.iW.mem hb;rw[ho]at q;cases q;exact hd⟩
theorem Ztx(I:Inv X pins σ H s){E:XK}{ev:Yd}(h:jl X.prog X.w X.stack H s E ev s'):∃e C H',ev= .ref e/\Inv X pins σ H' s'/\Jw X e C H' s'/\E (.ref C) (Ya e) H':=by
 obtain⟨e,C,dd,H',B,rfl,os,bare,un,hok,he,fl,cv,hE⟩:=h;refine⟨e,C,H',rfl,I.call' os un hok bare (λb z=>nomatch z),⟨dd,he,B,fl,⟨cv.xu,λb o q n hb hx=>?_,λb o q hb hx=>?_⟩,λp hp=>?_⟩,hE⟩
 .exact cv.old b o (I.base.keep b o q n hb hx) (I.base.free b o q n hx) (Ed I q hb) (λz=>nomatch z)
 .obtain⟨o1,q1⟩:=I.base.there b o q hx;exact cv.there b o1 q1 (Ed I q hb) (λz=>nomatch z)
 .obtain⟨e,n,ne,nf,_⟩:=I.pin p (uW _ hp);exact cv.old p.1 p.2 e n (λz=>(Y5.mp (I.wD p.1 z)).elim ne nf) (λz=>nomatch z)
theorem Zkq(I:Inv X pins σ H s){h':ao}{e:Yl}{vs:List Yd}(m:Heap.MadeExcOf s.heap h' e (.ref C) vs):
  H e=Yi/\Inv X pins σ (upd H e (jH e C Yi)) {s with heap:=h'}/\Jw X e C (upd H e (jH e C Yi)) {s with heap:=h'}:=by
 have hn:H e=Yi:=by
  cases q:H e with
  |none=>rfl|some u=>obtain⟨o,ho⟩:=Dj (I.hok e u q);rw[m.new]at ho;cases ho
 obtain⟨t,ht,_,_⟩:=m.there;have xo:vQ e C Yi h':=⟨_,_,ht,rfl,rfl,rfl⟩;have ne:∀b o,s.heap.get? b=Ya o->b≠e:=λb o q z=>by subst z;rw[m.new]at q;cases q
 have un:Un X.fs [] H (upd H e (jH e C Yi)) s.heap h':=
  ⟨λb u q _ _ _=>m.keeps b u q,
   λb u q _ _ _=>⟨u.slots,m.keeps b u q⟩,
   λb u q n _=>by rw[Zk (ne b u q)];exact n,
   λb u q _=>⟨u,m.keeps b u q⟩,
   λb xs q=>by rw[Zk (jA q hn)];exact q,
   λb u xs q=>by rw[Zk (jA q hn)];exact q,
   λb ps q=>⟨#[],by rw[Zk (jA q hn),q];simp⟩⟩
 have hok:cJ X.prog X.w (upd H e (jH e C Yi)) h':=λb u q=>by
  by_cases hb:b=e
  .subst hb;rw[cU]at q;cases q;exact Qp xo
  .rw[Zk hb]at q;exact(I.hok b u q).stay (λc v _ z=>m.keeps c v z) (λc z=>by rw[Zk (jA z hn)];exact z) λc xs z=>by rw[Zk (jA z hn)];exact z
 refine⟨hn,I.un (t':=s.toks) un hok,Yi,cU,Fz s.heap (frs X.stack),⟨.ref t,.inr ⟨λb o q=>m.keeps b o (Fy _ q),?_,?_,_,_,ht,rfl,rfl,rfl,rfl,rfl⟩⟩,⟨λb hb hne=>?_,λb o q n hb hx=>?_,λb o q hb hx=>?_⟩,λp hp=>?_⟩
 .cases q:(Fz s.heap (frs X.stack)).get? e with
  |none=>rfl|some o=>have:=Fy _ q;rw[m.new]at this;cases this
 .exact(Tz I.stack λenv he a ha=>Gv.mpr ⟨env,he,ha⟩).of_keeps λb o hb _=>⟨o,m.keeps b o hb,rfl⟩
 .rw[Zk hne]at hb;obtain⟨u,q⟩:=Tq.mp hb;obtain⟨o,ho⟩:=Dj (I.hok b u q);exact⟨o,sy _ ho λz=>hb (I.Fj b z)⟩
 .exact sy _ (I.base.keep b o q n hb hx) (Ed I q hb)
 .obtain⟨o1,q1⟩:=I.base.there b o q hx;exact⟨o1,sy _ q1 (Ed I q hb)⟩
 .obtain⟨e,n,ne,nf,_⟩:=I.pin p (uW _ hp);exact sy _ e λz=>(Y5.mp (I.wD p.1 z)).elim ne nf
end
def v7(K:Yb)(H:Hp)(ι:List Yl)(Q:VK)(E:XK)(r:R3 D):Prop:=match r with
 | .ok d M'=>∀v H' ι',Ext K H ι H' ι'->Zu K H' ι' M'->Rep K H' ι' d v->Q v H'|.exc x M'=>∀e C H' ι',Ext K H ι H' ι'->Zu K H' ι' M'->Rep K H' ι' x.arg (.ref e)->ClsAt K x.cls C->E (.ref C) (Ya e) H'|.bad=>False
variable{ι:List Yl}
theorem v7.up{K:Yb}{H1:Hp}{ι1:List Yl}{Q:VK}{E:XK}{r:R3 D}(e:Ext K H ι H1 ι1)(h:v7 K H ι Q E r):v7 K H1 ι1 Q E r:=by
 cases r with
 |ok d M=>exactλv H' ι' e' S r=>h v H' ι' (e.trans e') S r|exc x M=>exactλa C H' ι' e' S r=>h a C H' ι' (e.trans e') S r|bad=>exact h
theorem Zr.x{K:Yb}{H:Hp}{ι:List Yl}{Q:VK}{E:XK}{r:R3 D}(h:Zr K H ι Q r):v7 K H ι Q E r:=by
 cases r with
 |ok d M=>exact h|exc x M=>exact h.elim|bad=>exact h
noncomputable def Qs(K:Yb)(n:Nat)(F:F3):Sp:=λvs H Q E=>∃ι M ds,Zu K H ι M/\Zo K H ι ds vs/\ds.length=n/\v7 K H ι Q E (F ds M)
def Zuy(X:Cx)(f:E3):TE:=λσ H Q=>∃ι M env,Zu X.K H ι M/\aY X.K H ι env σ/\v7 X.K H ι Q (EX X σ) (f env M)
def jL(X:Cx)(any:Bool)(σ:St)(H:Hp)(ι:List Yl)(E:Ends)(r:O3):Prop:=match r with
 | .nx env' M'=>∀σ' H' ι',Ext X.K H ι H' ι'->Zu X.K H' ι' M'->aY X.K H' ι' env' σ'->E.nx σ' H'|.bk env' M'=>∀σ' H' ι',Ext X.K H ι H' ι'->Zu X.K H' ι' M'->aY X.K H' ι' env' σ'->E.bk σ' H'|.ct env' M'=>∀σ' H' ι',Ext X.K H ι H' ι'->Zu X.K H' ι' M'->aY X.K H' ι' env' σ'->E.ct σ' H'|.rt d M'=>∀v H' ι',Ext X.K H ι H' ι'->Zu X.K H' ι' M'->Rep X.K H' ι' d v->E.rt v H'
 | .exc x M'=>∀σ' e C H' ι',(any=false->σ'=σ)->Ext X.K H ι H' ι'->Zu X.K H' ι' M'->Rep X.K H' ι' x.arg (.ref e)->ClsAt X.K x.cls C->XW X σ' e C H'|.bad=>False
def Zst(X:Cx)(any:Bool)(f:S3):TS:=λE σ H=>∃ι M env,Zu X.K H ι M/\aY X.K H ι env σ/\jL X any σ H ι E (f env M)
def Qt(X:Cx)(e:Expr)(f:E3):Prop:=PE X e (Zuy X f)
def oZ(X:Cx)(any:Bool)(st:Ydr)(f:S3):Prop:=PS X st (Zst X any f)
def o4(X:Cx)(any:Bool)(st:List Ydr)(f:S3):Prop:=gJ X st (Zst X any f)
variable{σ:St}
theorem jL.up{X:Cx}{any:Bool}{σ1:St}{H1:Hp}{ι1:List Yl}{Q:Ends}{r:O3}(e:Ext X.K H ι H1 ι1)(hs:any=false->σ1=σ)(h:jL X any σ H ι Q r):jL X any σ1 H1 ι1 Q r:=by
 cases r with
 |nx d M=>exactλv H' ι' e' S r=>h v H' ι' (e.trans e') S r|bk d M=>exactλv H' ι' e' S r=>h v H' ι' (e.trans e') S r|ct d M=>exactλv H' ι' e' S r=>h v H' ι' (e.trans e') S r|rt d M=>exactλv H' ι' e' S r=>h v H' ι' (e.trans e') S r
 |exc x M=>exactλσ' a C H' ι' z e' S r=>h σ' a C H' ι' (λq=>(z q).trans (hs q)) (e.trans e') S r|bad=>exact h
theorem Zmv{f:S3}{X:Cx}{any:Bool}{env:Zt}{M:Store}{E:Ends}(h:jL X any σ H ι E (fM f env M)):j4 X.K H ι E (f env M):=by
 unfold fM at h;cases q:f env M with
 |exc x M1=>rw[q]at h;exact h.elim|bad=>rw[q]at h;exact h.elim|nx e M1=>rw[q]at h;exact h|rt e M1=>rw[q]at h;exact h
 |bk e M1=>rw[q]at h;exact h|ct e M1=>rw[q]at h;exact h
section
variable {X:Cx} {any:Bool} {st:Ydr} {sts:List Ydr} {e c1:Expr} {f:E3} {u w:S3} {pos:aF}
theorem Jx(h:CS X.gw st u):oZ X any st (fM u):=λpins s σ H D I z=>by obtain⟨ι,M,env,S,E,hf⟩:=z;exact dw (h pins s σ H D (I.wish _) ⟨ι,M,env,S,E,Zmv (X:=X) hf⟩) (λ_ _ q=>q.mO) λ_ _ z=>dg z
theorem Qu(h:nU X.gw sts u):o4 X any sts (fM u):=λpins s σ H D I z=>by obtain⟨ι,M,env,S,E,hf⟩:=z;exact dw (h pins s σ H D (I.wish _) ⟨ι,M,env,S,E,Zmv (X:=X) hf⟩) (λ_ _ q=>q.mO) λ_ _ z=>dg z
theorem uh(h:oZ X any st u):o4 X any [st] u:=HN h
theorem Al(h1:oZ X true st u)(h2:o4 X true sts w):o4 X true (st::sts) (Zw u w):=(HJ h1 h2).imp λD σ H ak=>by
 obtain⟨ι,M,env,S,E,h⟩:=ak;refine⟨ι,M,env,S,E,?_⟩;unfold Zw at h;cases q:u env M with
 |nx e M1=>rw[q]at h;exactλσ' H' ι' x S' E'=>⟨ι',M1,e,S',E',jL.up x (λz=>nomatch z) h⟩|rt e M1=>rw[q]at h;exact h|bk e M1=>rw[q]at h;exact h|ct e M1=>rw[q]at h;exact h
 |exc x M1=>rw[q]at h;exact h|bad=>rw[q]at h;exact h
theorem Qv{x y:List Ydr}(hc:CT X.gw c1 f)(ha:o4 X any x u)(hb:o4 X any y w):oZ X any (.If c1 x y pos) (bD (lX f) u w):=(Xd (PT.gw hc) ha hb).imp λD σ H ak=>by
 obtain⟨ι,M,env,S,E,h⟩:=ak;refine⟨ι,M,env,S,E,?_⟩;unfold bD lX at h;cases q:f env M with
 | ok d M1=>
  rw[q]at h;cases d with
  |bl k=>
   intro H1 ι1 x1 S1;cases k with
   |true=>rw[if_pos rfl];exact⟨ι1,M1,env,S1,E.mono x1,jL.up x1 (λ_=>rfl) h⟩|false=>rw[if_neg (by decide)];exact⟨ι1,M1,env,S1,E.mono x1,jL.up x1 (λ_=>rfl) h⟩
  |_=>exact h.elim
 |exc x M1=>rw[q]at h;exact h.elim|bad=>rw[q]at h;exact h.elim
theorem ZmS(h:Qt X e f)(hs:sJ e Yi pos.line X.env=pure false:=by rfl):oZ X any (.Expr e pos) (fL f):=(HS h hs).imp λD σ H ak=>by
 obtain⟨ι,M,env,S,E,h⟩:=ak;refine⟨ι,M,env,S,E,?_⟩;unfold fL at h;cases q:f env M with
 |ok d M1=>rw[q]at h;exactλv H1 ι1 x1 S1 r1=>h σ H1 ι1 x1 S1 (E.mono x1)|exc x M1=>rw[q]at h;exactλa C H' ι' x1 S1 r1 c1 a' C' e1 e2=>by cases e1;cases e2;exact h σ a C H' ι' (λ_=>rfl) x1 S1 r1 c1|bad=>rw[q]at h;exact h.elim
theorem Zoi(i:Nat){x:aj}{pos':aF}(hN:X.N.Nodup)(he:Qt X e f)(hi:X.N[i]?=Ya x:=by rfl)(hx:Loc X.env.scope x:=by first|exact Or.inl rfl|exact Or.inr rfl)(hs:sJ e (Ya (.Name x pos')) pos.line X.env=pure false:=by rfl)(hf:X.fn x=true\/X.env.scope.names.lookup x=Ya .local:=by first|exact .inl rfl|exact .inr rfl):oZ X any (.Assign [.Name x pos'] e pos) (aP i f):=(Xi hN hi hx he hs hf).imp λD σ H ak=>by
 obtain⟨ι,M,env,S,E,h⟩:=ak;refine⟨ι,M,env,S,E,?_⟩;unfold aP at h;cases q:f env M with
 |ok d M1=>rw[q]at h;exactλv H1 ι1 x1 S1 r1=>h _ H1 ι1 x1 S1 ((E.mono x1).set i r1)|exc x M1=>rw[q]at h;exactλa C H' ι' x1 S1 r1 c1 a' C' e1 e2=>by cases e1;cases e2;exact h σ a C H' ι' (λ_=>rfl) x1 S1 r1 c1|bad=>rw[q]at h;exact h.elim
end
variable{N ps:List aj}
section
variable {P:Yz} {w:aD} {K:Yb} {mg:aj->Option Yd} {base:ao}
theorem ZnM{qual:aj}{scope:Scope}{f:Yl}{cd:Yd}{A:aU}{outer:List b7}{s:Yg}{E:XK}{e:Yl}{H':Hp}(hE:E (.ref C) (Ya e) H'):
  XW (lQ (jl P w) P w K mg base N qual scope f cd A outer s H E) σ e C H':=λpins s' I x=>by
 obtain⟨dd,he,B,fl,cv,_⟩:=x;show Y1 _ _ (Gm _ (.ref e)) _ _ s';refine ZnV I.ok.frames rfl fl λh' Ak sl=>?_;exact⟨e,C,dd,H',B,rfl,I.os,I.bare,cv.un I.base Ak.stays sl (Zmr I),cv.hok I.hok he fl.stays Ak.stays Ak.Aj,he,Ak,cv,hE⟩
theorem ZiH{H':Hp}{ι':List Yl}{M M':Store}{Q:VK}{E:XK}{d:D}{v:V}(S:Zu K H ι M)(x:Ext K H ι H' ι')(S':Zu K H' ι' M')(r:Rep K H' ι' d v)(h:v7 K H ι Q E (jg M d M')):Q v H':=Py S x S' r (by unfold jg at h ⊢;split at h<;>(rename_i c;first|rw[if_pos c]|rw[if_neg c])<;>exact h)
theorem ZuG{x qual:aj}{st:Ydr}{f:Yl}{fd:fC}{k:Nat}{body:S3}(F:nC K x qual st f fd)(S:dY N ps (Zq st))(hb:∀(cdv:Yd) (A:aU) (outer:List b7) (s:Yg) (H:Hp) (E:XK),bZ k (A.deeper (jz qual (Zq st) s.heap.objs.size f cdv))->o4 (lQ (jl P w) P w K mg base N qual (Zq st) f cdv A outer s H E) true (gM st) body):
  dN P w K mg base (jl P w) (k+1) f fd ps (Qs K ps.length (dB ps.length N.length body)):=by
 obtain⟨oc,od,dV,kV,doc,pm,an,cdv,ct,osl,rfl,lk,hcd⟩:=F.ex;refine Ie lk hcd S (λvs H Q E ⟨ι,M,ds,_,r,l,_⟩=>by rw[r.length,l]) λA outer s H vs Q E hr ak=>?_;obtain⟨ι,M,ds,SR,r,l,h⟩:=ak;refine⟨_,hb cdv A outer s H E hr,ι,M,ds.map Ya++Yt (N.length-ps.length) Yi,SR,?_,?_⟩
 .have e:L2.start N vs=vs.map Ya++Yt (N.length-ps.length) Yi:=by unfold L2.start;rw[r.length,l]
  rw[e];exact aY.start r _
 .unfold dB at h;rw[if_pos l]at h;cases q:body (ds.map Ya++Yt (N.length-ps.length) Yi) M with
  |nx env' M'=>rw[q]at h;exactλσ' H' ι' x S' E'=>ZiH SR x S' Rep.non h|rt d M'=>rw[q]at h;exactλv H' ι' x S' r'=>ZiH SR x S' r' h|bk _ _=>rw[q]at h;exact h.elim|ct _ _=>rw[q]at h;exact h.elim
  |exc _ _=>rw[q]at h;exactλσ' a C H' ι' _ x S' r' c'=>ZnM (h a C H' ι' x S' r' c')|bad=>rw[q]at h;exact h.elim
end
section
variable {P:Yz} {w:aD} {K:Yb} {mg:aj->Option Yd} {base:ao}
theorem ZoF{k n:Nat}{f:Yl}{fd:fC}{F:F3}(G:dN P w K mg base (jl P w) k f fd ps (Qs K n F)):dN P w K mg base nA k f fd ps (xZ K n F):=
 ⟨λvs H Q E z=>let⟨ι,M,ds,S,r,l,h⟩:=z;G.len vs H Q E0 ⟨ι,M,ds,S,r,l,h.x⟩,λA outer s H args us vs Q E hr he hb hv z=>let⟨ι,M,ds,S,r,l,h⟩:=z;sI (G.run A outer s H args us vs Q E0 hr he hb hv ⟨ι,M,ds,S,r,l,h.x⟩) λr s' z=>by
  cases r with
  |error e=>exfalso;obtain⟨_,_,_,_,_,_,_,_,_,_,_,_,_,z⟩:=z;exact z|ok fl=>cases fl<;>exact z⟩
def o5(P:Yz)(w:aD)(K:Yb)(mg:aj->Option Yd)(base:ao)(k:Nat)(x:aj)(ps:List aj)(F:F3):Prop:=(∀ds M,ds.length≠ps.length->F ds M= .bad)/\∃f fd,mg x=Ya (.ref f)/\uJ K (.ref f)=true/\Binds K fd ps []/\dN P w K mg base (jl P w) k f fd ps (Qs K ps.length F)
theorem o5.fn{k:Nat}{x:aj}{F:F3}(h:o5 P w K mg base k x ps F):cD P w K mg base k x ps F:=let⟨n,f,fd,a,b,c,d⟩:=h;⟨n,f,fd,a,b,c,ZoF d⟩
theorem o5.of{x:aj}{st:Ydr}{k:Nat}{body:S3}(d:dG K mg x st ps)(S:dY N ps (Zq st))(hb:∀(f:Yl) (cdv:Yd) (A:aU) (outer:List b7) (s:Yg) (H:Hp) (E:XK),bZ k (A.deeper (jz x (Zq st) s.heap.objs.size f cdv))->o4 (lQ (jl P w) P w K mg base N x (Zq st) f cdv A outer s H E) true (gM st) body):
  o5 P w K mg base (k+1) x ps (dB ps.length N.length body):=by
 obtain⟨f,fd,F,m,bi⟩:=d;exact⟨λds M h=>if_neg h,f,fd,m,F.kp,bi,ZuG F S (hb f)⟩
end
section
variable {X:Cx} {o e:Expr} {es:List Expr} {f:E3} {gl:bW} {c m:List Nat} {C:Yl} {fn x:aj} {pos pos' apos p:aF} {k:Nat} {ps:List aj} {F:F3}
theorem ZsA{fa:Yl}{fd:fC}{sp:Sp}{pins:List (Yl×aq)}{s:Yg}{Q:VK}{us:List Yd}{vs:List V}(G:dN X.prog X.w X.K X.mg X.base (jl X.prog X.w) k fa fd ps sp)(hr:bZ k X.A)(hb:Binds X.K fd ps [])(I:Inv X pins σ H s)(r:Vals vs us)(h:sp vs H Q (EX X σ)):Y1 (Y9 X.prog X.w) X.A (call (.ref fa) us) (EP X pins σ Q) X.xe s:=by
 have hl:(us++[]).length=ps.length:=by rw[gW,←r.length];exact G.len _ _ _ _ h
 have hb':=hb s us I.bF hl;rw[gW]at hb';refine p6 (sI (G.run X.A X.stack s H ⟨us,[]⟩ us vs Q (EX X σ) hr I.env0 hb' r h) λr s' hq=>?_);cases r with
 |error e=>obtain⟨e,C,H',rfl,I',x,hE⟩:=Ztx I hq;exact hE e C rfl rfl pins s' I' x|ok fl=>
  cases fl with
  |ret u=>exact I.after hq|next=>exact dg hq|brk=>exact dg hq|cont=>exact dg hq
theorem Ef{es:List Expr}{pins:List (Yl×aq)}{s:Yg}{M M1:Store}{env:Zt}{ds:List D}{R:List Yd->Yg->Prop}(ha:CA X.gw es gl)(I:Inv X pins σ H s)(S:Zu X.K H ι M)(E:aY X.K H ι env σ)(q:gl env M= .ok ds M1)(h:∀us s1 vs H1 ι1,Inv X pins σ H1 s1->Vals vs us->Ext X.K H ι H1 ι1->Zu X.K H1 ι1 M1->Zo X.K H1 ι1 ds vs->R us s1):Y1 (Y9 X.prog X.w) X.A (Gj (bI pos (Yk es X.env))) R X.xe s:=by
 refine dw (ha pos pins s σ H (λvs H1=>∃ι1,Ext X.K H ι H1 ι1/\Zu X.K H1 ι1 M1/\Zo X.K H1 ι1 ds vs) (I.wish _) ⟨ι,M,env,S,E,?_⟩) (λus s1 z=>?_) λ_ _ z=>dg z
 .rw[q];exactλvs H1 ι1 x1 S1 r1=>⟨ι1,x1,S1,r1⟩
 .obtain⟨vs,H1,I1,r,ι1,x1,S1,r1⟩:=z;exact h us s1 vs H1 ι1 I1.mO r x1 S1 r1
theorem Zkx(G:o5 X.prog X.w X.K X.mg X.base k x ps F)(hr:bZ k X.A)(ha:CA X.gw (e::es) gl)(hg:Gl X x:=by rfl)(hdb:(x==("__debug__":aj))=false:=by decide)(he:Yk (e::es) X.env=(false,aA e X.env)::Yk es X.env:=by rfl)(hpl:(bI pos (Yk es X.env)).any (·.1)=false:=by rfl):Qt X (.Call (.Name x p) (e::es) [] pos) (aN F (t6 gl)):=by
 obtain⟨hn,fa,fd,hm,kp,bi,ok⟩:=G;intro pins s σ H Q I h;obtain⟨ι,M,env,S,E,h⟩:=h;refine yM (qw I hg hm ?_ hdb);unfold aN t6 at h;cases q:gl env M with
 |exc _ _=>rw[q]at h;exact h.elim|bad=>rw[q]at h;exact h.elim|ok ds M1=>
  rw[q]at h;have h:v7 X.K H ι Q (EX X σ) (F ds M1):=h;have hl:ds.length=ps.length:=by refine M8 λz=>?_;rw[hn ds M1 z]at h;exact h.elim
  exact TV (h₀:=X.base) I.ok.mod.vg kp (Ef ha I S E q λus s1 vs H1 ι1 I1 r x1 S1 r1=>⟨I1.bF,ZsA ok hr bi I1 r ⟨ι1,M1,ds,S1,r1,hl,h.up x1⟩⟩) he hpl
end
noncomputable abbrev Jy:List Yd:=[.type "ValueError",.type "Exception",.type "BaseException",.type "object"]
def v8(K:Yb)(c:List Nat)(C:Yl):Prop:=ClsAt K c C/\∃(na q:aj) (N:Yl) (bs bm:List Yd) (hdct:Bool) (sn:List aj) (sub:List Yd) (ab:Bool) (col:Option Bool) (dd:Option Yl) (k0 k1 k2 k3 k5:Option Yd),
 K.lookup C=Ya (iz na q C N bs bm hdct sn sub ab col dd k0 k1 k2 k3 k5 "ValueError.__new__")/\(∀h:ao,K.In h->∃mN,h.Ns N mN/\mN "__init__" =Yi)/\∀h:ao,K.In h->OwnTail h Jy bm
theorem Zhd{X:Cx}{any:Bool}{c:List Nat}{x:aj}{np cpos pos:aF}{a:Expr}{as:List Expr}{gl:bW}(O:v8 X.K c C)(hm:X.mg x=Ya (.ref C))(ha:CA X.gw (a::as) gl)(hc:X.calm=true:=by rfl)(hg:Gl X x:=by rfl)(hdb:(x==("__debug__":aj))=false:=by decide)(he:Yk (a::as) X.env=(false,aA a X.env)::Yk as X.env:=by rfl)(hpl:(bI cpos (Yk as X.env)).any (·.1)=false:=by rfl):oZ X any (.Raise (Ya (.Call (.Name x np) (a::as) [] cpos)) Yi pos) (t7 c gl):=by
 obtain⟨aZ,na,q,N,bs,bm,hdct,sn,sub,ab,col,dd,k0,k1,k2,k3,k5,lk,hN,hT⟩:=O;intro pins s σ H D I z;obtain⟨ι,M,env,S,E,h⟩:=z;unfold t7 at h;cases qg:gl env M with
 |exc _ _=>rw[qg]at h;exact h.elim|bad=>rw[qg]at h;exact h.elim|ok ds M1=>
  rw[qg]at h
  match ds,h,qg with
  |[],h,_=>exact h.elim|_::_::_,h,_=>exact h.elim|[d],h,qg=>
   obtain⟨mN,hns,hni⟩:=hN X.base I.ok.mod.vg;refine wpAny_Raise_call_subU (C:=C) (nm:=na) (q:=q) (N:=N) (bs:=bs) (bm:=bm) (hdct:=hdct) (sn:=sn) (sub:=sub) (ab:=ab) (col:=col) (dd:=dd) (k0:=k0) (k1:=k1) (k2:=k2) (k3:=k3) (k5:=k5)
    zj (bmB:=Jy) (by decide) zj (mN:=mN) ((hT X.base I.ok.mod.vg).hasType (by decide)) (I.ok.hd hc) (by rw[he];show(false|| (bI cpos (Yk as X.env)).any (·.1))=false;rw[hpl];rfl) hni (qw I hg hm ⟨rfl,?_⟩ hdb)
   have key:=Ef (pos:=cpos) (R:=λus s2=>us.length<=Y6/\s2.heap.get? C=Ya (iz na q C N bs bm hdct sn sub ab col dd k0 k1 k2 k3 k5 "ValueError.__new__")/\s2.heap.Ns N mN/\OwnTail s2.heap Jy bm/\∀h' e,Heap.MadeExcOf s2.heap h' e (.ref C) us->X.xe (.ref e) {s2 with heap:=h'}) ha I S E qg (λus s1 vs H1 ι1 I1 r x1 S1 r1=>by
    refine⟨?_,I1.bF _ _ lk,hns.keeps I1.bk,hT _ I1.bF,λh' e mk=>?_⟩
    .rw[←r.length,r1.length];exact(by decide:1<=Y6)
    .obtain⟨hn,I2,ul⟩:=Zkq I1 mk;exact h σ e C _ (ι1++[e]) (λ_=>rfl) (x1.trans (Loose.wI (.inl hn))) (S1.new hn (.inr ⟨C,Yi,cU,rfl,aZ,.inl rfl⟩)) (Rep.ref (by rw[←S1.len];simp)) aZ pins _ I2 ul)
   rw[he]at key ⊢;exact zr (dw key (λvs s₂ h₂=>⟨rfl,h₂⟩) λ_ _ y=>y)
noncomputable abbrev inX(X:Cx)(A':aU)(E':Yd->Yg->Prop):Cx:={X with A:=A',calm:=false,xe:=E'}
noncomputable abbrev Jz(X:Cx)(JB:List (Yl×aq))(E':Yd->Yg->Prop):Cx:={X with pn:=JB,xe:=E'}
variable{uE:List (Yl×aq)}{E':Yd->Yg->Prop}
section
variable {X:Cx} {pins:List (Yl×aq)} {σ:St} {H:Hp} {s:Yg}
theorem ZkY(I:Inv X pins σ H s)(A':aU)(E':Yd->Yg->Prop)(hf:A'.frames=X.A.frames):Inv (inX X A' E') pins σ H s:=
 let ok:=I.ok
 ⟨⟨ok.mod,ok.kind,ok.glob,ok.blt,ok.above,ok.inj,ok.has,ok.cab,(λz=>nomatch z),hf.trans ok.frames,ok.zB,ok.Df,ok.bs,ok.lM,ok.wF,ok.wG,ok.iW,ok.oK⟩,I.os,I.bare,I.base,I.loc,I.cell,I.free,I.iV,I.pin,I.hok,I.len⟩
theorem Zma{σ':St}{H':Hp}{s':Yg}{A':aU}(I:Inv X pins σ H s)(J:Inv (inX X A' E') uE σ' H' s'):Inv X uE σ' H' s':=⟨I.ok,J.os,J.bare,J.base,J.loc,J.cell,J.free,J.iV,J.pin,J.hok,J.len⟩
theorem Zo3(I:Inv X pins σ H s)(E':Yd->Yg->Prop):Inv (Jz X (X.pn++pins) E') [] σ H s:=
 let ok:=I.ok
 ⟨⟨ok.mod,ok.kind,ok.glob,ok.blt,ok.above,ok.inj,ok.has,ok.cab,ok.hd,ok.frames,ok.zB,ok.Df,ok.bs,ok.lM,ok.wF,ok.wG,ok.iW,ok.oK⟩,I.os,I.bare,I.base,I.loc,I.cell,I.free,I.iV,λp hp=>I.pin p (by simpa using hp),I.hok,I.len⟩
theorem Eg{σ':St}{H':Hp}{s':Yg}(I:Inv X pins σ H s)(J:Inv (Jz X (X.pn++pins) E') uE σ' H' s'):Inv X pins σ' H' s':=⟨I.ok,J.os,J.bare,J.base,J.loc,J.cell,J.free,J.iV,λp hp=>J.pin p (uW _ hp),J.hok,J.len⟩
theorem Zoa{D:Ends}{f:Flow}{s':Yg}(I:Inv X pins σ H s)(h:SP (Jz X (X.pn++pins) E') uE D f s'):SP X pins D f s':=by
 cases f with
 |next=>obtain⟨σ',H',J,q⟩:=h;exact⟨σ',H',Eg I J,q⟩|brk=>obtain⟨σ',H',J,q⟩:=h;exact⟨σ',H',Eg I J,q⟩|cont=>obtain⟨σ',H',J,q⟩:=h;exact⟨σ',H',Eg I J,q⟩|ret u=>obtain⟨v,σ',H',J,r,q⟩:=h;exact⟨v,σ',H',Eg I J,r,q⟩
theorem ZnN{B h':ao}{e:Yl}{dd:Option Yl}(I:Inv X pins σ H s)(he:H e=Ya (jH e C dd))(s1:B.StaysIn s.heap)(cv:yo B X.fs X.ex X.H₀ X.s₀.heap H e)(hp:∀p∈X.pn++pins,B.get? p.1=Ya p.2)(s2:B.StaysIn h')(sl:s.heap.UpToSlots h')(xo:vQ e C dd h'):Inv X pins σ H {s with heap:=h'}:=by
 have cellK:∀c v,s.heap.IsCell c v->h'.IsCell c v:=λc v z=>by
  obtain⟨o,ho,hd⟩:=z;obtain⟨s3,e3⟩:=sl c o ho λvs q=>by rw[hd]at q;cases q
  exact⟨_,e3,hd⟩
 refine⟨I.ok,I.os,I.bare,cv.un I.base s2 sl (Zmr I),?_,λx c z=>?_,I.free,I.iV,λp hq=>⟨s2 _ _ (hp p hq),(I.pin p hq).2⟩,cv.hok I.hok he s1 s2 xo,I.len⟩
 .obtain⟨m,hn,hl⟩:=I.loc;refine⟨m,sl.ns hn,λi x v e1 e2 e3=>?_⟩;obtain⟨u,r,l⟩:=hl i x v e1 e2 e3;refine⟨u,r,?_⟩;rcases l with l|⟨k,c,e,z⟩
  .exact .inl l
  .exact .inr ⟨k,c,e,cellK _ _ z⟩
 .obtain⟨v,q⟩:=I.cell x c z;exact⟨v,cellK _ _ q⟩
theorem Zrn{M:Model}{A:aU}{E:Yd->Yg->Prop}{Q:Unit->Yg->Prop}{j:Nat}{n:aj}{pos:aF}(I:Inv X pins σ H s)(hN:X.N.Nodup)(hj:X.N[j]?=Ya n)(hl:X.env.scope.names.lookup n=Ya .local)(h:∀s',Inv X pins (σ.set j Yi) H s'->Q () s'):Y1 M A (do bindName X.env n .none;Uc X.env n pos) Q E s:=by
 have hl':X.env.kindOf n=Ya .local:=hl;have hp:(X.env.scope.kind== .class|| (X.env.scope.kind== .module&&X.env.locals !=X.env.globals))=false:=by rw[I.ok.kind];rfl
 obtain⟨m,hn,hv⟩:=id I.loc;refine Yc (wpAny_bindName (T_ hl' hn (λh₁ hn₁ hs₁=>?_) hp));unfold Uc unbindName deleteName;refine BZ (Yc (yR (Yc ?_)));simp only[hp,hl'];rw[if_neg (by decide)];refine Yc (wpAny_nsDel_keeps hn₁ λh₂ v hn₂ hs₂=>?_);simp only[Tt,if_true,if_false,Cq,Bool.not_true];refine Ym (yR (h _ ?_));have sb:=hs₁.trans hs₂;have ne:∀b o,X.s₀.heap.get? b=Ya o->b≠X.env.locals:=λb o q=>dM (Yw (Yv q) I.ok.above);have nt:∀b,H b≠Yi->b≠X.env.locals:=λb q z=>q (by rw[z];exact I.free);have cellK:∀x c,X.env.cells.lookup x=Ya c->∀v,s.heap.IsCell c v->h₂.IsCell c v:=λx c z v q=>by obtain⟨o,ho,hd⟩:=q;exact⟨o,(sb.2 c (I.vh x c z)).trans ho,hd⟩
 refine⟨I.ok,I.os,I.bare,⟨λb o q n hb hx=>?_,λb o q n hb hx=>?_,I.base.free,λb o q hx=>?_,I.base.tups,I.base.jo,I.base.jO⟩,⟨_,hn₂,λi x v' e1 e2 e3=>?_⟩,λx c z=>?_,I.free,I.iV,λp hp=>?_,λb u q=>?_,by rw[LK];exact I.len⟩
 .exact(sb.2 b (ne b o q)).trans (I.base.keep b o q n hb hx)
 .obtain⟨sl,z⟩:=I.base.slot b o q n hb hx;exact⟨sl,(sb.2 b (ne b o q)).trans z⟩
 .obtain⟨o',z⟩:=I.base.there b o q hx;exact⟨o',(sb.2 b (ne b o q)).trans z⟩
 .have hij:i≠j:=λz=>by
   subst z;rw[Uu]at e2;cases q:σ[i]? with
   |none=>rw[q]at e2;simp at e2|some _=>rw[q]at e2;simp at e2
  rw[jw (cP hij)]at e2;obtain⟨u,r,l⟩:=hv i x v' e1 e2 e3;have hxn:x≠n:=λz=>hij (Ny hN e1 (by rw[z];exact hj));refine⟨u,r,?_⟩;rcases l with⟨k,l⟩|⟨k,c,e,z⟩
  .refine .inl ⟨k,?_⟩;show(if x=n then _ else _)=_;rw[if_neg hxn];show(if x=n then _ else _)=_;rw[if_neg hxn];exact l
  .exact .inr ⟨k,c,e,cellK x c e _ z⟩
 .obtain⟨v,q⟩:=I.cell x c z;exact⟨v,cellK x c z v q⟩
 .obtain⟨e,n,ne',r⟩:=I.pin p hp;exact⟨(sb.2 _ ne').trans e,n,ne',r⟩
 .refine(I.hok b u q).stay (λc v hc z=>(sb.2 c (nt c ?_)).trans z) (λ_ z=>z) λ_ _ z=>z;rcases hc with rfl|hc
  .rw[q];simp
  .rw[hc];simp
end
theorem aY.unset{K:Yb}{env:Zt}(r:aY K H ι env σ)(j:Nat):aY K H ι (env.set j Yi) (σ.set j Yi):=by
 refine⟨by simp[r.1],λi d h=>?_⟩;by_cases hij:i=j
 .subst hij;rw[Uu]at h;cases q:env[i]? with
  |none=>rw[q]at h;simp at h|some _=>rw[q]at h;simp at h
 .rw[jw (cP hij)]at h;obtain⟨w,q,z⟩:=r.2 i d h;exact⟨w,by rw[jw (cP hij)];exact q,z⟩
theorem ZqI{X:Cx}{x n:aj}{np pos pos2:aF}{body suite:List Ydr}{b0:Ydr}{cs:List (List Nat)}(j:Nat){b h:S3}{CE:Yl}(hN:X.N.Nodup)(hm:X.mg x=Ya (.ref CE))(hsub:∀c C,cs.contains c=true->ClsAt X.K c C->pW X.K (.ref C) (.ref CE)=Ya true)(hb:∀JB E',o4 (Jz X JB E') false body b)(hs:∀A' E',nU (inX X A' E') (b0::suite) h)(hst:X.stack=X.env::X.outer:=by rfl)(hfr:X.env.frame=Ya X.env.locals:=by rfl)(hj:X.N[j]?=Ya n:=by rfl)(hl:X.env.scope.names.lookup n=Ya .local:=by rfl)(hg:Gl X x:=by rfl)(hdb:(x==("__debug__":aj))=false:=by decide):CS X (.Try body [.ExceptHandler (Ya (.Name x np)) (Ya n) (b0::suite) pos] [] [] pos2) (xX cs j b h):=by
 intro pins s σ H D I z;obtain⟨ι,M,env,S,E,hf⟩:=z;refine wpAny_Try_except (dw (hb (X.pn++pins) _ [] s σ H D (Zo3 I _) ⟨ι,M,env,S,E,?_⟩) (λf s1 q=>?_) (λ_ _ z=>z))
 rotate_left
 .have q:=Zoa I q;cases f with
  |next=>obtain⟨σ',H',J,q⟩:=q;exact FT ⟨σ',H',J,q⟩|brk=>exact q|cont=>exact q|ret u=>exact q
 unfold xX at hf;cases q:b env M with
 |nx e M1=>rw[q]at hf;exact hf|rt e M1=>rw[q]at hf;exact hf|bk e M1=>rw[q]at hf;exact hf|ct e M1=>rw[q]at hf;exact hf
 |bad=>rw[q]at hf;exact hf|exc x1 M1=>
  rw[q]at hf;dsimp only at hf;have hc:cs.contains x1.cls=true:=M8 λz=>by rw[if_neg z]at hf;exact hf
  rw[if_pos hc]at hf;intro σ' e C H' ι' hσ xt S1 r1 c1 uE s' J ul;obtain rfl:=hσ rfl;obtain⟨dd,he,B,fl,cv,hpn⟩:=ul;have I1:Inv X pins σ' H' s':=Eg I J;have fl0:qZ B (X.env::X.outer) e C dd s'.heap:=by rw[←hst];exact fl
  have Ag8:X.A.frames=Ya (X.env::X.outer):=by rw[←hst];exact I1.ok.frames
  show Y1 (Y9 X.prog X.w) X.A (Ca (.ref e) X.env) _ _ s';refine ZmI Ag8 hfr fl0 λh₄ a0 held sl4=>?_;refine Qq held λh₅ Bx sl5=>?_;have I5:Inv X pins σ' H' {s' with heap:=h₅}:=ZnN I1 he fl.stays cv hpn Bx.1 (sl4.trans sl5) Bx.Aj;have NZ:=ZkY I5 (X.A.mark (Ya (.ref e))) (λ_ _=>False) rfl;refine wpAny_handleBy_cons (codeAny_handlers_test (qw NZ hg hm ?_ hdb)) (by intro q;cases q);have LT:PySem.W.Looks (Y9 X.prog X.w) h₅ (typeOf (.ref e)) (.ref C):=by obtain⟨o,vs,a,b,_⟩:=Bx.Aj;exact b▸(PySem.W.Looks.ld a).andThen .now
  refine PySem.W.exm_one (K:=X.K) (cls:=.ref C) I5.bF LT (hsub _ _ hc c1) _ _ _ _ (λ_ _ q=>q) ?_;refine codeAny_handlers_suite_as ?_;refine Qq Bx λh₆ Tg sl6=>?_;have I6:Inv X pins σ' H' {s' with heap:=h₆}:=ZnN (s:={s' with heap:=h₅}) I5 he Bx.1 cv hpn Tg.1 sl6 Tg.Aj;have I6':=ZkY I6 (X.A.mark (Ya (.ref e))) (λ_ _=>False) rfl;refine Nz (X:=inX X (X.A.mark (Ya (.ref e))) λ_ _=>False) (v:=.ref e) I6' hN hj (.inl hl) rfl (λs7 I7=>?_) (.inr hl);refine dw (hs (X.A.mark (Ya (.ref e))) (λ_ _=>False) pins s7 (σ'.set j (Ya (.ref e))) H' {nx:=λσ2 H2=>D.nx (σ2.set j Yi) H2,rt:=λ_ _=>False} I7 ⟨ι',M1,env.set j (Ya x1.arg),S1,(E.mono xt).set j r1,?_⟩) (λf s8 q=>?_) (λ_ _ z=>dg z)
  .cases qh:h (env.set j (Ya x1.arg)) M1 with
   |nx e' M2=>rw[qh]at hf;exactλσ2 H2 ι2 x2 S2 E2=>hf _ H2 ι2 (xt.trans x2) S2 (E2.unset j)|rt _ _=>rw[qh]at hf;exact hf.elim|bk _ _=>rw[qh]at hf;exact hf.elim|ct _ _=>rw[qh]at hf;exact hf.elim
   |exc _ _=>rw[qh]at hf;exact hf.elim|bad=>rw[qh]at hf;exact hf.elim
  .cases f with
   |next=>obtain⟨σ2,H2,I8,q⟩:=q;exact Zrn (Zma I I8) hN hj hl λs9 I9=>⟨σ2.set j Yi,H2,I9,q⟩|brk=>exfalso;obtain⟨_,_,_,q⟩:=q;exact q|cont=>exfalso;obtain⟨_,_,_,q⟩:=q;exact q
   |ret u=>exfalso;obtain⟨_,_,_,_,_,q⟩:=q;exact q
end L3
namespace PySem.W
open PySem PySem.Spec PySem.Calls PyProof.Rows Builtin Builtin.ObjectAttr Builtin.Getset_descriptor
section
variable {prog:Yz} {w:aD} {K:Frag} {x D:Yl}
def mQ(x D:Yl)(h:ao):Prop:=∃o,h.get? x=Ya o/\o.cls= .ref D
theorem mQ.ty{h:ao}(p:mQ x D h)(M:Model):Looks M h (typeOf (.ref x)) (.ref D):=by obtain⟨o,a,b⟩:=p;exact b▸(Looks.ld a).andThen .now
theorem Zo5{M:Model}{h:ao}{name:aj}{a g:Yd}(X:K.In h)(ha:findIn K (.ref D) name=Ya (Ya a))(hg:specialIn K a "__get__" =Ya (Ya g))(ht:takesIn K a=Ya true):Looks M h (find (.ref x) (.ref D) name) (.bind g a):=
 (looks_findIn (M:=M) X ha).andThen ((show Looks M h (getOf (Ya a)) (Ya g)from looks_specialIn X hg).andThen
  ((show Looks M h (dataDescriptor? (Ya a) (Ya g)) (Ya (g,a))from(looks_takesIn (M:=M) X ht).andThen .now).andThen (Looks.tag .now)))
theorem Zqc{A:aU}{R:sS->Yg->Prop}{s:Yg}{tp:Yd}(X:K.In s.heap)(p:mQ x D s.heap)(hm:mroIn K D (.type "object")=Ya true)(hq:R (.ok (.ret (.ref D))) s):mU (Y9 prog w) A (.call (.builtin "getset_descriptor.__get__") ⟨[.builtin "object.__class__",.ref x,tp],[]⟩) R s:=by
 obtain⟨hh,gg,dd,tt,oo⟩:=s;have L0:=p.ty (Y9 prog w);have L1:=looks_mroIn (M:=Y9 prog w) X hm;refine wN KF.slot_gs.plain KF.entry_gs (KF.slot_gs.check _ _ _ _ _ _ _ _ KF.type_class (KF.args_gs _ _ _) ?_);unfold Builtin.«getset_descriptor.__get__» descrGet;rw[dga_obj];refine Yc (Ym ?_);unfold descrGetter descrCheckInstance descrNameAndClass B_;simp only[KF.owner_class]
 repeat lk
 refine⟨Hq _ (by decide +kernel),Uo KF.entry_class ?_⟩;unfold Builtin.«object.__class__» shownTypeOf;repeat lk
 exact hq
theorem ZtE{A:aU}{R:sS->Yg->Prop}{s:Yg}{tk:dX}(ha:findIn K (.ref D) "__class__" =Ya (Ya (.builtin "object.__class__")))(hn:specialIn K (.builtin "object.__class__") "__get__" =Ya (Ya (.builtin "getset_descriptor.__get__")))(htk:takesIn K (.builtin "object.__class__")=Ya true)(hm:mroIn K D (.type "object")=Ya true)(hb:mroIn K D (.type "BaseException")=Ya true)(X:K.In s.heap)(p:mQ x D s.heap)(hq:R (.ok (.ret (.ref D))) s):mU (Y9 prog w) A (.call (.builtin "BaseException.__getattribute__") ⟨[.ref x,.str "__class__" tk],[]⟩) R s:=by
 obtain⟨hh,gg,dd,tt,oo⟩:=s;have L0:=p.ty (Y9 prog w);have L1:=looks_mroIn (M:=Y9 prog w) X hb;have L3:=Zo5 (M:=Y9 prog w) (x:=x) X ha hn htk;have hk:builtinKind "BaseException.__getattribute__" =Ya .slot:=by decide +kernel
 have hs:splitId "BaseException.__getattribute__" =Ya ("BaseException","__getattribute__"):=by decide +kernel
 have hz:=Vz (.ref x) (.str "__class__" tk);refine wN F.excAttr_ValueError.ga.plain Vy ?_;simp only[BR,hk,hs];refine Yc ?_;unfold B_
 repeat lk
 refine wpAny_run (h:=Yi) (Zqc X p hm ?_);exact Ym (Ym hq)
theorem ZmD{A:aU}{E:Yd->Yg->Prop}{s:Yg}{Q:Option Yd->Yg->Prop}(hg:findIn K (.ref D) "__getattribute__" =Ya (Ya (.builtin "BaseException.__getattribute__")))(hg2:findIn K (.ref D) "__getattr__" =Ya Yi)(ha:findIn K (.ref D) "__class__" =Ya (Ya (.builtin "object.__class__")))(hn:specialIn K (.builtin "object.__class__") "__get__" =Ya (Ya (.builtin "getset_descriptor.__get__")))(htk:takesIn K (.builtin "object.__class__")=Ya true)(hm:mroIn K D (.type "object")=Ya true)(hb:mroIn K D (.type "BaseException")=Ya true)(X:K.In s.heap)(p:mQ x D s.heap)(hq:Q (Ya (.ref D)) {s with toks:=s.toks+1}):Y1 (Y9 prog w) A (getAttr? (.ref x) "__class__") Q E s:=by obtain⟨hh,gg,dd,tt,oo⟩:=s;have L0:=p.ty (Y9 prog w);have L1:=looks_findIn (M:=Y9 prog w) X hg;have L2:=looks_findIn (M:=Y9 prog w) X hg2;have f3:=F.excAttr_ValueError.ga.bind (.ref x);unfold getAttr? getAttrBy? getAttrBy;refine Yc (Lh (Yc (yQ (fP (Yc (L0.at (Yc (L1.at ?_))))))));show Y1 _ _ (FW _ _ _ _ _ _) _ _ _;unfold FW hookBefore Uk;refine Yc (L2.at (Yc (yQ (fP ?_))));show Y1 _ _ (F_ _ _ _) _ _ _;unfold F_;rw[f3];refine Yc (Ym ?_);refine p6 (ZtE ha hn htk hm hb X p ?_);exact handed_on rfl (Ym hq)
theorem AfD(hg:findIn K (.ref D) "__getattribute__" =Ya (Ya (.builtin "BaseException.__getattribute__")))(hg2:findIn K (.ref D) "__getattr__" =Ya Yi)(hb:mroIn K D (.type "BaseException")=Ya true)(hc:(clsIn K D).isSome=true)(ha:findIn K (.ref D) "__class__" =Ya (Ya (.builtin "object.__class__")))(hn:specialIn K (.builtin "object.__class__") "__get__" =Ya (Ya (.builtin "getset_descriptor.__get__")))(htk:takesIn K (.builtin "object.__class__")=Ya true)(hm:mroIn K D (.type "object")=Ya true):
  KitX K (.ref x) (.ref D) (mQ x D):=by
 obtain⟨cdD,hcD⟩:=Fx.mp hc;unfold clsIn at hcD;split at hcD
 .rename_i c' d' cd' sl' ho;refine⟨λM h _ p=>p.ty M,λM h X _=>?_,λh tp dd its n sl X htp=>?_,λX p k=>ZmD hg hg2 ha hn htk hm hb X p k⟩
  .intro A' Q' E' s' k q;unfold isType loadHead;exact Yc (Ld (k _ _ (X _ _ ho)) (Ym q))
  .refine Bool.eq_false_iff.mpr λq=>?_;have e:D=tp:=Value.ref.inj (beq_iff_eq.mp q);rw[←e]at htp;cases(X _ _ ho).symm.trans htp
 .cases hcD
theorem aG{t:Yd}{C:Yl}{cd:ClassData}{b:Bool}(cl:clsIn K C=Ya cd)(ty:typeIn K (.ref C)=Ya (.type "type"))(se:subIn K (.ref C) (.ref C)=Ya true)(sb:subIn K t (.ref C)=Ya b):kitOne K t (.ref C)=Ya b:=by
 unfold kitOne;by_cases q:(t== .ref C)=true
 .rw[if_pos q];rw[beq_iff_eq.mp q,se]at sb;exact sb
 .rw[if_neg q];show(if((clsIn K C).isSome&&typeIn K (.ref C)==Ya (.type "type"))=true then subIn K t (.ref C)else Yi)=Ya b;rw[cl,ty,if_pos (by rfl)];exact sb
theorem su{t:Yd}{T:String}{b:Bool}(hm:kitMeta T=true)(ne:(t== .type T)=false)(sb:subIn K t (.type T)=Ya b):kitOne K t (.type T)=Ya b:=by unfold kitOne;rw[if_neg (by rw[ne];decide)];show(if kitMeta T=true then subIn K t (.type T)else Yi)=Ya b;rw[if_pos hm];exact sb
theorem aK{t c:Yd}{r:List Yd}{b:Bool}(h:kitOne K t c=Ya false)(hr:kitAny K t r=Ya b):kitAny K t (c::r)=Ya b:=by unfold kitAny;rw[h];exact hr
theorem d9{t c:Yd}{r:List Yd}(h:kitOne K t c=Ya true):kitAny K t (c::r)=Ya true:=by unfold kitAny;rw[h]
theorem aM{t:Yd}:kitAny K t []=Ya false:=rfl
theorem uH{C CE:Yl}{cd:ClassData}(cl:clsIn K CE=Ya cd)(ty:typeIn K (.ref CE)=Ya (.type "type"))(bs:subIn K (.ref CE) (.type "BaseException")=Ya true)(sb:subIn K (.ref C) (.ref CE)=Ya true):exmOne K (.ref C) (.ref CE)=Ya true:=by unfold exmOne;rw[bs,if_pos (by rfl)];show(if((clsIn K CE).isSome&&typeIn K (.ref CE)==Ya (.type "type"))=true then subIn K (.ref C) (.ref CE)else Yi)=Ya true;rw[cl,ty,if_pos (by rfl)];exact sb
end
end PySem.W
namespace L3
open PySem PySem.Spec PyProof.Rows L2
theorem Zfw:fQ "ValueError" =Ya (.type "ValueError"):=by decide +kernel
structure Zh(K:Yb)(C:Yl):Prop where
 ga:Yr K (.ref C) "__getattribute__" =Ya (Ya (.builtin "BaseException.__getattribute__"))
 gh:Yr K (.ref C) "__getattr__" =Ya Yi
 be:eX K C (.type "BaseException")=Ya true
 cl:(iY K C).isSome=true
 fa:Yr K (.ref C) "__class__" =Ya (Ya (.builtin "object.__class__"))
 sp:wL K (.builtin "object.__class__") "__get__" =Ya (Ya (.builtin "getset_descriptor.__get__"))
 tk:K1 K (.builtin "object.__class__")=Ya true
 mo:eX K C (.type "object")=Ya true
theorem Zh.kit{K:Yb}{C x:Yl}(h:Zh K C):PySem.W.KitX K (.ref x) (.ref C) (PySem.W.mQ x C):=PySem.W.AfD h.ga h.gh h.be h.cl h.fa h.sp h.tk h.mo
section
variable {X:Cx} {a:Expr} {es:List Expr} {f:E3} {p p1 p2 pos pt:aF} {x:aj} {C:Yl} {vs:List V} {yes no:List (List Nat)}
structure j8(K:Yb)(yes no:List (List Nat))(cs:List Yd):Prop where
 non:Yf K (.type "NoneType") cs=Ya false
 yes:∀c C,yes.contains c=true->ClsAt K c C->Zh K C/\Yf K (.ref C) cs=Ya true
 no:∀c C,no.contains c=true->ClsAt K c C->Zh K C/\Yf K (.ref C) cs=Ya false
theorem Zne{pins:List (Yl×aq)}{σ:St}{H:Hp}{s:Yg}{ι:List Yl}{M:Store}{d:D}{v:V}{u:Yd}{cs:List Yd}{Q:VK}(I:Inv X pins σ H s)(S:Zu X.K H ι M)(r:Rep X.K H ι d v)(ru:RelV v u)(hk:j8 X.K yes no cs)(q:Zr X.K H ι Q (dD yes no d M)):
  ∃(t:Yd) (Hc:ao->Prop) (b:Bool),PySem.W.KitX X.K u t Hc/\Hc s.heap/\u≠ .builtin "__main__.__loader__#opaque" /\Yf X.K t cs=Ya b/\Q (.bl b) H:=by
 cases d with
 |non=>have:=r.iT;subst this;cases(show u=Value.none from ru);exact⟨_,_,false,TX,True.intro,(λz=>nomatch z),hk.non,Zr.ok q S Rep.bl⟩|ref n=>
  rw[Pq]at q;cases hn:M[n]? with
  |none=>rw[hn]at q;exact q.elim|some o=>
   rw[hn]at q;cases o with
   | ins c fs=>cases c with
    |nil=>exact q.elim|cons k c=>cases k with
     |succ _=>exact q.elim|zero=>
       obtain⟨a,ha,rfl⟩:=r.dZ;cases(show u=Value.ref a from ru);rcases S.obj n _ a hn ha with⟨_,_,_,_,z,_⟩|⟨C,dd,e,_,aZ,_⟩
       .exact absurd rfl z.2
       .have aZ:ClsAt X.K c C:=aZ;obtain⟨⟨o,ws,h1,h2,_⟩,_⟩:=(show bR X.prog X.w H s.heap a (jH a C dd)from I.hok a _ e);have q:Zr X.K H ι Q (if yes.contains c then .ok (.bl true) M else if no.contains c then .ok (.bl false) M else .bad):=q;by_cases hy:yes.contains c=true
        .rw[if_pos hy]at q;obtain⟨k1,k2⟩:=hk.yes c C hy aZ;exact⟨_,_,true,k1.kit,⟨o,h1,h2⟩,(λz=>nomatch z),k2,Zr.ok q S Rep.bl⟩
        .rw[if_neg hy]at q;by_cases hy:no.contains c=true
         .rw[if_pos hy]at q;obtain⟨k1,k2⟩:=hk.no c C hy aZ;exact⟨_,_,false,k1.kit,⟨o,h1,h2⟩,(λz=>nomatch z),k2,Zr.ok q S Rep.bl⟩
         .rw[if_neg hy]at q;exact q.elim
   |_=>exact q.elim
 |_=>exact q.elim
theorem ZiW{c:Yd}{cv:V}(hm:X.mg "isinstance" =Yi)(hk:j8 X.K yes no [c])(h:C3 X a f)(hv:RelV cv c)(hx:PE X (.Name x p1) (tC cv))(hc:∀u,RelV cv u->u=c)(hg:Gl X "isinstance":=by rfl)(hs:Yk (a::[.Name x p1]) X.env=(false,aA a X.env)::Yk [.Name x p1] X.env:=by rfl)(hs1:Yk (.Name x p1::[]) X.env=(false,aA (.Name x p1) X.env)::Yk [] X.env:=by rfl)(hpl:(bI pos (Yk [.Name x p1] X.env)).any (·.1)=false:=by rfl):C3 X (.Call (.Name "isinstance" p) [a,.Name x p1] [] pos) (e1 (dD yes no) f):=by
 have hcl:cj X (.builtin "isinstance") (λxs H Q=>∃ι M d x,xs=[x,cv]/\Zu X.K H ι M/\Rep X.K H ι d x/\Zr X.K H ι Q (dD yes no d M)):=by
  intro pins s σ H xs us Q I r q;obtain⟨ι,M,d,x,rfl,S,rd,q⟩:=q;obtain⟨u,w',rfl,ru,iG⟩:=vals2 r;obtain rfl:=hc _ iG;obtain⟨t,Hc,b,kx,hh,hl,ht,hq⟩:=Zne I S rd ru hk q;have h1:K4 X.K t w'=Ya b:=by
   unfold Yf at ht;split at ht
   .rename_i q;cases ht;exact q
   .rename_i q;rw[q];exact ht
   .cases ht
  exact kZ kx I.bF hh h1 hl λtk=>⟨.bl b,H,I.tok _,rfl,hq⟩
 refine(Od hcl hg hm Zd2 (tV h (tV hx Dm hs1) hs) (by decide) (by decide) hs hpl).imp λσ H Q ak=>?_;obtain⟨ι,M,env,S,E,h⟩:=ak;obtain⟨d,M1,e1,h⟩:=Zr.bind h;refine⟨ι,M,env,S,E,?_⟩;rw[e1];intro v H1 ι1 x1 S1 r1;exact⟨ι1,M1,d,v,rfl,S1,r1,h.up x1⟩
theorem n8(hm:X.mg "isinstance" =Yi)(hx:X.mg x=Ya (.ref C))(hk:j8 X.K yes no [.ref C])(h:C3 X a f)(hg1:Gl X x:=by rfl)(hd:(x==("__debug__":aj))=false:=by decide)(hg:Gl X "isinstance":=by rfl)(hs:Yk (a::[.Name x p1]) X.env=(false,aA a X.env)::Yk [.Name x p1] X.env:=by rfl)(hs1:Yk (.Name x p1::[]) X.env=(false,aA (.Name x p1) X.env)::Yk [] X.env:=by rfl)(hpl:(bI pos (Yk [.Name x p1] X.env)).any (·.1)=false:=by rfl):C3 X (.Call (.Name "isinstance" p) [a,.Name x p1] [] pos) (e1 (dD yes no) f):=ZiW (cv:=.ref C) hm hk h rfl (HD hg1 hx (v:=.ref C) rfl hd) (λu q=>q) hg hs hs1 hpl
theorem Zmz{T:String}(hm:X.mg "isinstance" =Yi)(hx:X.mg x=Yi)(hv:fQ x=Ya (.type T))(hk:j8 X.K yes no [.type T])(h:C3 X a f)(hg1:Gl X x:=by rfl)(hn:x≠ "__name__":=by decide)(hd:(x==("__debug__":aj))=false:=by decide)(hg:Gl X "isinstance":=by rfl)(hs:Yk (a::[.Name x p1]) X.env=(false,aA a X.env)::Yk [.Name x p1] X.env:=by rfl)(hs1:Yk (.Name x p1::[]) X.env=(false,aA (.Name x p1) X.env)::Yk [] X.env:=by rfl)(hpl:(bI pos (Yk [.Name x p1] X.env)).any (·.1)=false:=by rfl):C3 X (.Call (.Name "isinstance" p) [a,.Name x p1] [] pos) (e1 (dD yes no) f):=ZiW (cv:=.ty T) hm hk h rfl (Xc hg1 hx hv (v:=.ty T) rfl hn hd) (λu q=>q) hg hs hs1 hpl
end
noncomputable def o6(es:Array DictEntry):Bool:=es.toList.all λe=>match e.key with
 | .str _ _=>true|_=>false
theorem Zoo{es:Array DictEntry}(h:o6 es=true):StrKeys es:=λe he=>by
 have:=jT.mp h e (V9.mpr he);split at this
 .rename_i n t q;exact⟨n,t,q⟩
 .cases this
section
variable {K:Yb} {h:ao} {a:Yl} {oc:Yd} {od:Option Yl} {es:Array DictEntry} {ep:Nat} {sl:Array (Option Yd)}
theorem jm(X:K.In h)(l:K.lookup a=Ya ⟨oc,od,.dict es ep,sl⟩)(sk:o6 es=true):h.Ns a (oF es):=⟨_,es,ep,X _ _ l,rfl,Zoo sk,λ_=>rfl⟩
theorem Zla{c:List Nat}{C C':Yl}(x:ClsAt K c C)(y:ClsAt K c C'):C'=C:=by have:=y.symm.trans x;cases this;rfl
theorem gk{P:Yl->Prop}:∀c C,([]:List (List Nat)).contains c=true->ClsAt K c C->P C:=λc C z=>by cases z
theorem Zf{P:Yl->Prop}{k:List Nat}{ks:List (List Nat)}{C1:Yl}(x:ClsAt K k C1)(p:P C1)(t:∀c C,ks.contains c=true->ClsAt K c C->P C):∀c C,(k::ks).contains c=true->ClsAt K c C->P C:=λc C z aZ=>by
 rw[U0,Mh]at z;rcases z with z|z
 .rw[beq_iff_eq.mp z]at aZ;rw[Zla x aZ];exact p
 .exact t c C z aZ
end
section
variable {X:Cx} {tg:Expr} {pos:aF}
theorem ZoY{iter:Expr}{body:List Ydr}{i:I3}{g:G3}{u:S3}(hp:Lr (Y9 X.prog X.w) X.A X.env X.xe)(hc:X.calm=true)(hi:CI X tg iter i)(hg:CG X tg g)(hb:o4 X true body u)(hs:∀x,wQ iter X.env x=pure x:=by intro _;rfl):
  oZ X true (.For tg iter body [] pos) (z6 i g u):=(Ia hp hc hi hg hb hs).imp λD σ H ak=>by
 obtain⟨ι,M,env,S,E,h⟩:=ak;unfold z6 at h;cases q:i env M with
 |exc x M1=>rw[q]at h;exact h.elim|bad=>rw[q]at h;exact h.elim|ok it M1=>
  rw[q]at h;refine⟨ι,M,env,S,E,?_⟩;rw[q];intro J H1 ι1 x1 S1 ok;refine⟨λi m σ2 H2=>m=it.items.length-i/\i<=it.items.length/\∃ι2 M2 eV,Ext X.K H1 ι1 H2 ι2/\Zu X.K H2 ι2 M2/\aY X.K H2 ι2 eV σ2/\jL X true σ2 H2 ι2 D (jf it g u (it.items.drop i) eV M2),
   ⟨_,rfl,jy _,ι1,M1,env,Ext.refl,S1,E.mono x1,jL.up x1 (λz=>nomatch z) h⟩,?_⟩
  rintro i m σ2 H2 ⟨rfl,hi,ι2,M2,eV,x2,S2,E2,h2⟩;by_cases hlt:i<it.items.length
  .have hd:it.items[i]?=Ya it.items[i]:=by simp[hlt]
   rw[Cg hlt]at h2
   first|rw[DN]at h2|rw[DK]at h2
   by_cases lk:locked it M2=true
   .rw[if_pos lk]at h2;obtain⟨go,yl⟩:=(ok i H2 ι2 M2 x2 S2 lk).1 _ hd;cases eg:g it.items[i] eV with
    |none=>rw[eg]at h2;exact h2.elim|some jq=>
     rw[eg]at h2;refine .inr ⟨go,λσ' H'=>∃ι3 M3 gG,Ext X.K H2 ι2 H' ι3/\Zu X.K H' ι3 M3/\aY X.K H' ι3 gG σ'/\jL X true σ' H' ι3 D (jf it g u (it.items.drop (i+1)) gG M3),
      λσ' H' ⟨ι3,M3,gG,x3,S3,E3,h3⟩=>⟨it.items.length-(i+1),by omega,rfl,hlt,ι3,M3,gG,x2.trans x3,S3,E3,h3⟩,λx H' hy=>?_⟩
     obtain⟨rfl,rx⟩:=yl x H' hy;refine⟨ι2,M2,eV,_,jq,S2,E2,rx,eg,λσ' E'=>⟨ι2,M2,jq,S2,E',?_⟩⟩;cases qu:u jq M2 with
     |nx e' M'=>simp only[qu]at h2;exactλσ' H' ι' x' S' E'=>⟨ι',M',e',x',S',E',h2.up x' (λz=>nomatch z)⟩|ct e' M'=>simp only[qu]at h2;exactλσ' H' ι' x' S' E'=>⟨ι',M',e',x',S',E',h2.up x' (λz=>nomatch z)⟩|bk e' M'=>simp only[qu]at h2;exact h2|rt d M'=>simp only[qu]at h2;exact h2
     |exc x' M'=>simp only[qu]at h2;exactλQw a C H' ι' _=>h2 Qw a C H' ι' (λz=>nomatch z)|bad=>simp only[qu]at h2;exact h2.elim
   .rw[if_neg lk]at h2;exact h2.elim
  .have e0:i=it.items.length:=eZ hi (jc hlt);subst e0;rw[Cj]at h2
   first|rw[DN]at h2|rw[DK]at h2
   by_cases lk:locked it M2=true
   .rw[if_pos lk]at h2;exact .inl ⟨(ok _ H2 ι2 M2 x2 S2 lk).2 rfl,h2 σ2 H2 ι2 Ext.refl S2 E2⟩
   .rw[if_neg lk]at h2;exact h2.elim
theorem Zje{iter:Expr}{body:List Ydr}{i:qO}{g:G3}{u:S3}(hp:Lr (Y9 X.prog X.w) X.A X.env X.xe)(hc:X.calm=true)(hi:CIL X tg iter i)(hg:CG X tg g)(hb:o4 X true body u)(hs:∀x,wQ iter X.env x=pure x:=by intro _;rfl):
  oZ X true (.For tg iter body [] pos) (qP i g u):=(Ia hp hc hi hg hb hs).imp λD σ H ak=>by
 obtain⟨ι,M,env,S,E,h⟩:=ak;unfold qP at h;cases q:i env M with
 |exc x M1=>rw[q]at h;exact h.elim|bad=>rw[q]at h;exact h.elim|ok it M1=>
  rw[q]at h;refine⟨ι,M,env,S,E,?_⟩;rw[q];intro J H1 ι1 x1 S1 ok;refine⟨λi m σ2 H2=>m=it.items.length-i/\i<=it.items.length/\∃ι2 M2 eV,Ext X.K H1 ι1 H2 ι2/\Zu X.K H2 ι2 M2/\aY X.K H2 ι2 eV σ2/\jL X true σ2 H2 ι2 D (iI it.lk g u (it.items.drop i) eV M2),
   ⟨_,rfl,jy _,ι1,M1,env,Ext.refl,S1,E.mono x1,jL.up x1 (λz=>nomatch z) h⟩,?_⟩
  rintro i m σ2 H2 ⟨rfl,hi,ι2,M2,eV,x2,S2,E2,h2⟩;by_cases hlt:i<it.items.length
  .have hd:it.items[i]?=Ya it.items[i]:=by simp[hlt]
   rw[Cg hlt]at h2
   first|rw[vO]at h2|rw[vN]at h2
   by_cases lk:gQ it.lk M2=true
   .rw[if_pos lk]at h2;obtain⟨go,yl⟩:=(ok i H2 ι2 M2 x2 S2 lk).1 _ hd;cases eg:g it.items[i] eV with
    |none=>rw[eg]at h2;exact h2.elim|some jq=>
     rw[eg]at h2;refine .inr ⟨go,λσ' H'=>∃ι3 M3 gG,Ext X.K H2 ι2 H' ι3/\Zu X.K H' ι3 M3/\aY X.K H' ι3 gG σ'/\jL X true σ' H' ι3 D (iI it.lk g u (it.items.drop (i+1)) gG M3),
      λσ' H' ⟨ι3,M3,gG,x3,S3,E3,h3⟩=>⟨it.items.length-(i+1),by omega,rfl,hlt,ι3,M3,gG,x2.trans x3,S3,E3,h3⟩,λx H' hy=>?_⟩
     obtain⟨x7,S7,rx⟩:=yl x H' hy;refine⟨ι2,M2,eV,_,jq,S7,E2.mono x7,rx,eg,λσ' E'=>⟨ι2,M2,jq,S7,E',?_⟩⟩;have h2':=jL.up (any:=true) (σ1:=σ2) x7 (λz=>nomatch z) h2;cases qu:u jq M2 with
     |nx e' M'=>simp only[qu]at h2';exactλσ' H' ι' x' S' E'=>⟨ι',M',e',x7.trans x',S',E',h2'.up x' (λz=>nomatch z)⟩|ct e' M'=>simp only[qu]at h2';exactλσ' H' ι' x' S' E'=>⟨ι',M',e',x7.trans x',S',E',h2'.up x' (λz=>nomatch z)⟩|bk e' M'=>simp only[qu]at h2';exact h2'|rt d M'=>simp only[qu]at h2';exact h2'
     |exc x' M'=>simp only[qu]at h2';exactλQw a C H' ι' _=>h2' Qw a C H' ι' (λz=>nomatch z)|bad=>simp only[qu]at h2';exact h2'.elim
   .rw[if_neg lk]at h2;exact h2.elim
  .have e0:i=it.items.length:=eZ hi (jc hlt);subst e0;rw[Cj]at h2
   first|rw[vO]at h2|rw[vN]at h2
   by_cases lk:gQ it.lk M2=true
   .rw[if_pos lk]at h2;exact .inl ⟨(ok _ H2 ι2 M2 x2 S2 lk).2 rfl,h2 σ2 H2 ι2 Ext.refl S2 E2⟩
   .rw[if_neg lk]at h2;exact h2.elim
end
noncomputable def Qx(K:Yb)(d:List aj)(v:Yd):Bool:=match v with
 | .ref a=>(match K.lookup a with
  |some o=>o.cls== .type "tuple" &&o.dict.isNone&&(match o.data with| .seq vs _=>decide (vs.size<=1000)&&KTD.strsLook vs.toList d|_=>false)
  |none=>false)
 |_=>false
noncomputable def JC(t:oU):List (aj×List aj):=t.map λp=>(⟨p.1.toArray⟩,p.2.map λy=>⟨y.toArray⟩)
def Zth(K:Yb)(d:List aj)(v:Yd):Prop:=∃a,v= .ref a/\∀H,bY K H a (d.map V.str)
theorem Zk9:∀{vs:List Yd} {d:List aj},StrsAre vs d->Vals (d.map V.str) vs:=by
 intro vs d h
 induction h with
 |nil=>exact .nil|cons _ _ _ ih=>exact .cons ⟨_,rfl⟩ ih
theorem Zoy{K:Yb}{d:List aj}{v:Yd}(h:Qx K d v=true):Zth K d v:=by
 unfold Qx at h;split at h
 .rename_i a;refine⟨a,rfl,λH=>?_⟩;split at h
  .rename_i o ho;simp only[gq]at h;obtain⟨⟨h1,h2⟩,h3⟩:=h;split at h3
   .rename_i vs n hd;simp only[gq,decide_eq_true_eq]at h3;exact .inr ⟨o,vs,n,ho,⟨beq_iff_eq.mp h1,by simpa using h2⟩,hd,Ys h3.1 (by rw[iy];decide),Zk9 (KTD.strs_of_look h3.2)⟩
   .cases h3
  .cases h
 .cases h
abbrev v_(K:Yb)(a:Yl)(t:oU):Prop:=KTD.tabLook (Qx K) (λb=>K.lookup b) a (JC t)=true
theorem v_.at{K:Yb}{a:Yl}{t:oU}{h:ao}(T:v_ K a t)(X:K.In h):zu (Zth K) h a (JC t):=KTD.tab_of_look (λ_ _ q=>Zoy q) X T
theorem JD(x:List Nat):∀t:oU,qj (⟨x.toArray⟩:aj) (JC t)=(tabAt x t).map λds=>ds.map λy=>(⟨y.toArray⟩:aj)
 |[]=>rfl|(k,v)::r=>by
  show(if decide ((⟨x.toArray⟩:aj)=⟨k.toArray⟩)=true then Ya (v.map λy=>(⟨y.toArray⟩:aj))else qj ⟨x.toArray⟩ (JC r))=(if x=k then Ya v else tabAt x r).map _;by_cases e:x=k
  .subst e;rw[if_pos rfl,if_pos (decide_eq_true rfl)];rfl
  .rw[if_neg e,if_neg (by simp[e]),JD x r]
theorem Qy{K:Yb}{H:Hp}{ι:List Yl}:∀ds:List (List Nat),Zo K H ι (ds.map D.str) ((ds.map λy=>(⟨y.toArray⟩:aj)).map V.str)
 |[]=>Zo.nil|_::ds=>Zo.cons Rep.str (Qy ds)
variable{R:List aj->Yd->Prop}{Q:Yd->Yg->Prop}{T:List (aj×List aj)}
section
variable {prog:Yz} {w:aD} {A:aU} {E:Yd->Yg->Prop} {s:Yg} {a:Yl} {K:Yb} {t:oU} {x:List Nat} {tk:dX}
theorem Am{δ:Type}{R:δ->Yd->Prop}{T:List (aj×δ)}(h:zu R s.heap a T):s.TypeIs (.ref a) "dict":=let⟨_,o,_,_,ho,hc,_⟩:=h;⟨o,ho,hc.1⟩
theorem ZiL{δ:Type}{R:δ->Yd->Prop}{T:List (aj×δ)}{k:aj}{Q:Option Yd->Yg->Prop}(h:zu R s.heap a T)(hs:∀d v,qj k T=Ya d->R d v->Q (Ya v) {s with toks:=s.toks+1})(hn:qj k T=Yi->Q Yi {s with toks:=s.toks+1}):Y1 (Y9 prog w) A (Gn a (.str k tk)) Q E s:=by
 obtain⟨_,o,es,ep,ho,hc,hd,hr⟩:=h;unfold Gn
 try with_reducible refine fP ?_
 refine Yc (Ui (Yc (KTD.kt_dictFind_strs (s:={s with toks:=s.toks+1}) ho hd (by obtain⟨es⟩:=es;simpa using hr.exact) ?_)));have key:Q (findBy (λq v=>v.isStr q) es k) {s with toks:=s.toks+1}:=by
  rw[show findBy (λq v=>v.isStr q) es k=(es.toList.find? λz=>z.key.isStr k).map (·.val)by obtain⟨es⟩:=es;simp[findBy]];cases e:qj k T with
  |none=>rw[hr.find_none e];exact hn e|some d=>obtain⟨v,hv,r⟩:=hr.find_some e;rw[hv];exact hs d v e r
 rw[findBy_of_findIdx?]at key;cases e:es.findIdx? λz=>z.key.isStr k with
 |none=>rw[e]at key;exact Ym key|some j=>rw[e]at key;exact Yc (wpAny_dictEntries (s:={s with toks:=s.toks+1}) ho hd (Ym key))
theorem Zlb{k:aj}:
  MeetsIn prog w (Builtin.«dict.get» ⟨[.ref a,.str k tk],[]⟩) λ_ Z s=>zu R s.heap a T/\(∀d v,qj k T=Ya d->R d v->Z (.ok (.ret v)) {s with toks:=s.toks+1})/\(qj k T=Yi->Z (.ok (.ret .none)) {s with toks:=s.toks+1}):=
 .of_wp λA Z s zz=>by obtain⟨h,h1,h2⟩:=zz;show Y1 _ _ (Gn a (.str k tk)>>=λo=>_) _ _ s;refine Yc (ZiL h (λd v e r=>Ym ⟨v,rfl,h1 d v e r⟩) λe=>?_);show Y1 _ _ (Builtin.Dict.missed a (.str k tk)>>=λo=>_) _ _ _;exact Yc (wpAny_missed_other h.1 (Ym ⟨Value.none,rfl,h2 e⟩))
theorem ZoJ{k:aj}(h:zu R s.heap a T)(h1:∀d v,qj k T=Ya d->R d v->Q v {s with toks:=s.toks+1})(h2:qj k T=Yi->Q .none {s with toks:=s.toks+1}):Y1 (Y9 prog w) A (call (.builtin "dict.get") [.ref a,.str k tk]) Q E s:=call_meetsIn Vu (Am h) PySem.F.entry_dict_get (PySem.F.args_dict_get_2 _ _) (Zlb (R:=R) (T:=T)) ⟨h,h1,h2⟩
theorem Znd{k:aj}{d:List aj}(h:zu R s.heap a T)(e:qj k T=Ya d)(h1:∀v,R d v->Q v {s with toks:=s.toks+1}):Y1 (Y9 prog w) A (mV (.ref a) (.str k tk)) Q E s:=by
 unfold mV
 try with_reducible refine fP ?_
 refine Yc (K9 (Am h) (by decide) ?_);refine Yc (uM (name:=jd "__getitem__") (Am h) Vt
  (uO Vt (Am h) PySem.F.entry_dict_getitem ?_ (PySem.F.args_dict_getitem_2 _ _)))
 show Y1 _ _ (Gn a (.str k tk)>>=λo=>_) _ _ s;refine Yc (ZiL h (λd' v e' r=>?_) λe'=>by rw[e]at e';cases e');rw[e]at e';cases e';exact Ym ⟨v,rfl,Ym (h1 v r)⟩
end
section
variable {X:Cx} {e:Expr} {x:aj} {a:Yl} {t:oU} {npos apos cpos pos:aF} {g:E3}
theorem ZqX{te:TE}(hm:X.mg x=Ya (.ref a))(ht:v_ X.K a t)(he:PE X e te)(m:M1 X (.Name x npos) "get" apos e cpos)(hg:Gl X x)(hd:(x==("__debug__":aj))=false):
  PE X (.Call (.Attribute (.Name x npos) "get" apos) [e] [] cpos) (λσ H Q=>te σ H λy H1=>∃k,y= .str ⟨k.toArray⟩/\match tabAt k t with
   |some ds=>∀b,bY X.K H1 b ((ds.map λz=>(⟨z.toArray⟩:aj)).map V.str)->Q (.ref b) H1|none=>Q .non H1):=by
 intro pins s σ H Q I h;refine wpAny_Call_method m.base m.few m.line PySem.F.plainAttrs_dict Vu PySem.F.type_dict_get (aC (HD (v:=.ref a) (u:=.ref a) hg hm rfl hd pins s σ H (λv H'=>v= .ref a/\H'=H) I ⟨rfl,rfl⟩) λu s1 ak=>?_);obtain⟨v,H1,I1,r1,rfl,rfl⟩:=ak;obtain rfl:u=Value.ref a:=r1;have T1:=ht.at I1.bF;refine⟨Am T1,λb q=>?_,?_⟩
 .cases q
  obtain⟨_,ob,_,_,h1,h2,_⟩:=T1;exact⟨ob,h1,h2.2.1⟩
 rw[m.trees];refine V5 rfl (zr (V6 (aC (he pins s1 σ H1 _ I1 h) λiv s2 Eh=>V7 ?_)));obtain⟨y,H2,I2,ry,k,rfl,q⟩:=Eh;obtain⟨tk,rfl⟩:=ry;refine ZoJ (ht.at I2.bF) (λd v ed rv=>?_) λed=>?_
 .rw[JD]at ed;cases et:tabAt k t with
  |none=>rw[et]at ed;cases ed|some ds=>rw[et]at ed q;cases ed;obtain⟨b,rfl,sq⟩:=rv;exact⟨.ref b,H2,I2.tok _,rfl,q b (sq _)⟩
 .rw[JD]at ed;cases et:tabAt k t with
  |some ds=>rw[et]at ed;cases ed|none=>rw[et]at q;exact⟨.non,H2,I2.tok _,rfl,q⟩
theorem Zry(hm:X.mg x=Ya (.ref a))(ht:v_ X.K a t)(he:C3 X e g)(m:M1 X (.Name x npos) "get" apos e cpos:=by exact⟨rfl,rfl,rfl,rfl⟩)(hg:Gl X x:=by rfl)(hd:(x==("__debug__":aj))=false:=by decide):
  C3 X (.Call (.Attribute (.Name x npos) "get" apos) [e] [] cpos) (e1 (z7 t) g):=(ZqX hm ht he m hg hd).imp λσ H Q ak=>by
 obtain⟨ι,M,env,S,E,h⟩:=ak;obtain⟨d,M1,e1,h⟩:=Zr.bind h;refine⟨ι,M,env,S,E,?_⟩;rw[e1];intro y H1 ι1 x1 S1 r1;cases d with
 |str k=>
  cases r1.str_inv
  refine⟨k,rfl,?_⟩;simp only[z7]at h;cases et:tabAt k t with
  |none=>rw[et]at h;exact h _ H1 ι1 x1 S1 Rep.non|some ds=>rw[et]at h;exactλb sq=>h _ H1 ι1 x1 S1 (Rep.tup sq (Qy ds))
 |_=>exact h.elim
theorem Zoj{te:TE}(hm:X.mg x=Ya (.ref a))(ht:v_ X.K a t)(he:PE X e te)(hs:zM e)(hg:Gl X x)(hd:(x==("__debug__":aj))=false):
  PE X (.Subscript (.Name x npos) e pos) (λσ H Q=>te σ H λy H1=>∃k ds,y= .str ⟨k.toArray⟩/\tabAt k t=Ya ds/\∀b,bY X.K H1 b ((ds.map λz=>(⟨z.toArray⟩:aj)).map V.str)->Q (.ref b) H1):=by
 intro pins s σ H Q I h;refine YM PySem.F.slot_dict_getitem.lookup hs (aC (HD (v:=.ref a) (u:=.ref a) hg hm rfl hd pins s σ H (λv H'=>v= .ref a/\H'=H) I ⟨rfl,rfl⟩) λu s1 ak=>?_);obtain⟨v,H1,I1,r1,rfl,rfl⟩:=ak;obtain rfl:u=Value.ref a:=r1;refine aC (he pins s1 σ H1 _ I1 h) λiv s2 Eh=>?_;obtain⟨y,H2,I2,ry,k,ds,rfl,et,q⟩:=Eh;obtain⟨tk,rfl⟩:=ry;have T2:=ht.at I2.bF;refine⟨Am T2,Znd T2 (d:=ds.map λz=>(⟨z.toArray⟩:aj)) (by rw[JD,et];rfl) λv rv=>?_⟩;obtain⟨b,rfl,sq⟩:=rv;exact⟨.ref b,H2,I2.tok _,rfl,q b (sq _)⟩
theorem ZpW(hm:X.mg x=Ya (.ref a))(ht:v_ X.K a t)(he:C3 X e g)(hs:zM e:=by exactλ_ _=>rfl)(hg:Gl X x:=by rfl)(hd:(x==("__debug__":aj))=false:=by decide):
  C3 X (.Subscript (.Name x npos) e pos) (e1 (t8 t) g):=(Zoj hm ht he hs hg hd).imp λσ H Q ak=>by
 obtain⟨ι,M,env,S,E,h⟩:=ak;obtain⟨d,M1,e1,h⟩:=Zr.bind h;refine⟨ι,M,env,S,E,?_⟩;rw[e1];intro y H1 ι1 x1 S1 r1;cases d with
 |str k=>
  cases r1.str_inv
  simp only[t8]at h;cases et:tabAt k t with
  |none=>rw[et]at h;exact h.elim|some ds=>rw[et]at h;exact⟨k,ds,rfl,et,λb sq=>h _ H1 ι1 x1 S1 (Rep.tup sq (Qy ds))⟩
 |_=>exact h.elim
end
open AutoSeq1 (wpAny_loadPart')
set_option maxRecDepth 100000
theorem Zio{prog:Yz}{w:aD}{A:aU}{it:Yl}{fp:List Yl}{n:Nat}{P:Nat->Yd->Prop}{St:Nat->ao->Prop}(D:Draws prog w A it fp n P St):
  Draws prog w A it fp (n+1) (λi v=>P (i-1) v) (λi h=>∃j,i=j+1/\St j h)where
 live:=λi h ⟨j,_,st⟩=>D.live j h st
 frame:=λi h h' ⟨j,e,st⟩ hk=>⟨j,e,D.frame j h h' st hk⟩
 item:=λi s Q E hi st hQ=>by obtain⟨j,rfl,st⟩:=st;exact D.item j s Q E (Nat.lt_of_succ_lt_succ hi) st λx h' tk hp st' hs=>hQ x h' tk hp ⟨j+1,rfl,st'⟩ hs
 done:=λs Q E st hE=>by obtain⟨j,e,st⟩:=st;cases Ni e;exact D.done s Q E st hE
theorem Zjk(l:Yl)(items:Array Yd)(n:Nat)(dct:Option Yl)(sl:Array (Option Yd))(t:dX):
  Meets (Builtin.«enumerate.__new__» ⟨[.type "enumerate",.ref l],[("start",.int 1 t)]⟩) (λ_ R s=>s.heap.get? l=Ya {cls:=.type "list",dict:=dct,data:=.seq items n,slots:=sl}/\
   R (.ok (.ret (.ref (s.heap.push {cls:=.type "list_iterator",data:=.fields #[.ref l,.int 0 0]}).objs.size)))
    {s with heap:=(s.heap.push {cls:=.type "list_iterator",data:=.fields #[.ref l,.int 0 0]}).push {cls:=.type "enumerate",data:=.fields #[.none,.bool false,.ref s.heap.objs.size,iZ 1,.none,.none]}}):=
 .of_wp λprog w A R s h=>by
  obtain⟨hp,g,d,tk,os⟩:=s;obtain⟨hl,h⟩:=h;have hsub:=sub_enumerate;have hL:Heap.IsList (Nj ⟨hp,g,d,tk,os⟩) l items:=⟨_,hl,rfl,n,rfl⟩
  wp_walk using FQ hl
  refine wpAny_stack_any λst=>Ym ?_;split
  .rename_i c _ _ _ _ _;cases(c==Value.type "enumerate")
   .wp_walk using FQ hl,wO hL
    exact⟨_,rfl,h⟩
   .wp_walk using FQ hl,wO hL
    exact⟨_,rfl,h⟩
  .wp_walk using FQ hl,wO hL
   exact⟨_,rfl,h⟩
theorem Zjz(a b:Yd):checkTypeCall "enumerate" ⟨[a],[("start",b)]⟩=pure ():=by kernel_rfl
theorem Zlm(a b:Yd):BR "enumerate.__new__" ⟨[.type "enumerate",a],[("start",b)]⟩=pure ():=by kernel_rfl
theorem Zkc(o a b:Yd):argsOk "object.__init__" ⟨[o,a],[("start",b)]⟩:=by unfold argsOk;rw[signature?_of (id:="object.__init__") (n:=['_','_','t','i','n','i','_','_']) (o:=['t','c','e','j','b','o']) (by kernel_rfl) F.owner_object];kernel_rfl
theorem Zi6{self a b:Yd}:Meets (Builtin.«object.__init__» ⟨[self,a],[("start",b)]⟩) (λ_ R s=>s.TypeIs self "enumerate" /\R (.ok (.ret .none)) s):=by
 have hl:=F.called_enumerate.init.lookup;have hm:=F.called_enumerate.made;refine Meets.of_wp λprog w A R s hs=>?_;obtain⟨hT,hq⟩:=hs
 repeat(any_goals(first|assumption|wp_step))
 exact⟨_,rfl,hq⟩
theorem ZjZ{prog:Yz}{w:aD}{A:aU}{E:Yd->Yg->Prop}{s:Yg}{l:Yl}{items:Array Yd}{t:dX}(hL:s.heap.IsList l items)(h:∀h',IsEnum h' (s.heap.objs.size+1) s.heap.objs.size 1 .none->h'.IsListIter s.heap.objs.size l 0->(∀b o,s.heap.get? b=Ya o->h'.get? b=Ya o)->Q (.ref (s.heap.objs.size+1)) {s with heap:=h'}):
  Y1 (Y9 prog w) A (call (.type "enumerate") [.ref l] [("start",.int 1 t)]) Q E s:=by
 obtain⟨⟨c,dct,dt,sl⟩,hl,hc,n,hd⟩:=hL;replace hc:c= .type "list":=hc;replace hd:dt= .seq items n:=hd;subst hc hd;have ft:=F.called_enumerate;obtain⟨c,tl,hmro⟩:=ft.mro;have hmade:=ft.made;have hsub:=ft.sub;have hct:=Zjz (.ref l) (.int 1 t);have hcn:=Zlm (.ref l) (.int 1 t);refine p6 (Uq (show Y1 _ _ (callAny (.type "enumerate") _) _ _ _ from ?_));refine Ym ⟨Hq _ (by decide +kernel),Uo F.entry_type_call (?_)⟩;rw[Around.under_plain (weight_type_call_type _ _ _) (units_type_call_type _ _ _)];have h1:=ft.notType;have h2:=ft.canCreate
 repeat(any_goals(first|assumption|wp_step))
 have hz:(s.heap.push {cls:=.type "list_iterator",data:=.fields #[.ref l,.int 0 0]}).objs.size=s.heap.objs.size+1:=uV ..;have g0:=Zjk l items n dct sl t prog w A.in1 (wants (λobj s₁=>s₁.TypeIs obj "enumerate" /\Q obj s₁) E) s ⟨hl,by
  show _/\_;rw[hz];have he:IsEnum ((s.heap.push {cls:=.type "list_iterator",data:=.fields #[.ref l,.int 0 0]}).push {cls:=.type "enumerate",data:=.fields #[.none,.bool false,.ref s.heap.objs.size,iZ 1,.none,.none]}) (s.heap.objs.size+1) s.heap.objs.size 1 .none:=by have q:=Yu (s.heap.push {cls:=.type "list_iterator",data:=.fields #[.ref l,.int 0 0]}) (o:={cls:=.type "enumerate",data:=.fields #[.none,.bool false,.ref s.heap.objs.size,iZ 1,.none,.none]}) rfl;rw[hz]at q;exact q
  exact⟨⟨_,he,rfl⟩,h _ he ⟨_,Yh _ (Yu _ rfl),rfl,rfl⟩ λb o x=>Yh _ (Yh _ x)⟩⟩
 refine sI (wN ft.plain F.entry_enumerate_new (wpAny_of_eq hcn g0)) λr s₁ hr=>?_;cases r with
 |error e=>exact hr|ok fl=>
  cases fl with
  | ret obj=>
   obtain⟨hT,hq⟩:=hr;have hli:=ft.init.lookup;have hbi:=ft.init.bind obj
   repeat(any_goals(first|assumption|wp_step))
   refine sI (wN ft.init.plain F.entry_object_init (ft.init.check _ _ _ _ _ _ _ _ hT (Zkc obj _ _) (Zi6 prog w A.in1 (wants (λr s₂=>r= .none/\Q obj s₂) E) s₁ ⟨hT,rfl,hq⟩))) λr₂ s₂ Qz=>?_;cases r₂ with
   |error e=>exact Qz|ok fl₂=>
    cases fl₂ with
    |ret r=>
     obtain⟨rfl,hq⟩:=Qz
     repeat(any_goals(first|assumption|wp_step))
    |_=>exact Qz.elim
  |_=>exact hr.elim
noncomputable def ZsX(S:Hp->List V->Prop):It:=⟨λi H=>∃xs x,S H xs/\xs[i]?=Ya x,λi H x H'=>∃A a,x= .ref A/\H A=Yi/\H'=upd H A (.tup [.int ((i+1:Nat):Int),a])/\∀xs,S H xs->xs[i]?=Ya a,
 λi H=>∃xs,S H xs/\xs.length<=i⟩
theorem Zjq{P:Yz}{w:aD}{K:Yb}{es:List Expr}{k:Nat}{pos:aF}(a e it:Yl)(hne:e≠it):
  Turn P w K (.Tuple es k pos) (ZsX λH xs=>bK K H a xs) [e,it] e (λi h=>(∃old,IsEnum h e it ((i+1:Nat):Int) old)/\h.IsListIter it a i)where
 mem:=by simp
 obj:=λi h st b hb=>by
  obtain⟨⟨old,he⟩,o,ho,c,d⟩:=st;simp only[Y5,uY,or_false]at hb;rcases hb with rfl|rfl
  .exact⟨_,he,λv z=>by cases z⟩
  .exact⟨o,ho,λv z=>by rw[d]at z;cases z⟩
 keep:=λi h h' st k=>by obtain⟨⟨old,he⟩,hit⟩:=st;exact⟨⟨old,k e (by simp) _ he⟩,hit.at λo q=>k it (by simp) o q⟩
 item:=by
  intro X hP hw hK hc i pins s σ H E I hf st hg;subst hP hw hK;obtain⟨xs,x,hq,hx⟩:=hg;obtain⟨its,rv,p,hz⟩:=I.list hq;obtain⟨u,hu,ru⟩:=rv.get hx;obtain⟨⟨old,he⟩,hit⟩:=st;have hel:=Yv he;have hil:it<s.heap.objs.size:=by obtain⟨o,ho,_⟩:=id hit;exact Yv ho
  have hae:e≠a:=by rintro rfl;obtain⟨o,ho,hc,_⟩:=p.isList;rw[he]at ho;cases ho;exact absurd hc (by simp)
  have hai:a≠it:=by rintro rfl;obtain⟨o,ho,hc,_⟩:=p.isList;obtain⟨o',ho',hc',_⟩:=hit;rw[ho']at ho;cases ho;rw[hc']at hc;exact absurd hc (by simp)
  have D:=Zio (Draws.list (prog:=X.prog) (w:=X.w) (A:=X.A.in1) (I.ok.hd hc) it a hai its.toArray);refine wpAny_pyNext_enum_itemD (i:=i+1) D he ⟨i,rfl,hit,p.isList⟩ (by simpa using(Yj.mp hu).1) hne (by simp[hne,hae]) λy h' tk hy ho hst hT hsz hk=>?_;have ey:y=u:=by
   have q:its.toArray[i]?=Ya u:=by simpa using hu
   have hy':its.toArray[i]?=Ya y:=hy;rw[q]at hy';cases hy';rfl
  subst ey;refine⟨_,rfl,wpAny_letOwnedTupleGo_enum (s:={s with heap:=h',toks:=tk+1}) ho λh'' Ag9 hs''=>?_⟩;obtain⟨I2,n2⟩:=Zld (i:=i+1) (x:=x) (tk':=tk+1) I hf hel hil ru hT hk hs'';obtain⟨j,ej,hst,_⟩:=hst;cases Ni ej;exact⟨.ref s.heap.objs.size,_,I2,rfl,⟨_,x,rfl,I.hok.fresh (Yq _),rfl,λys hy=>by rw[I.Kw hy hq];exact hx⟩,⟨⟨_,by simpa using Ag9⟩,hst.extBut hs''.extBut (cP hne)⟩,n2⟩
 done:=by
  intro X hP hw hK hc i pins s σ H E I hf st hg;subst hP hw hK;obtain⟨xs,hq,hx⟩:=hg;obtain⟨its,rv,p,hz⟩:=I.list hq;obtain⟨⟨old,he⟩,hit⟩:=st;have hl:=rv.length;have hT:s.TypeIs (.ref e) "enumerate":=⟨_,he,rfl⟩;unfold oE;refine Yc (yQ (uM (name:=jd "__next__") hT Vv
   (uO Vv hT F.entry_enumerate_next (show Y1 _ _ (sV (.ref e) 2>>=λo=>_) _ _ _ from ?_) (F.args_enumerate_next_1 _))))
  refine Yc (fU he rfl (x:=.ref it) rfl (Yc ?_));refine Ua (I.ok.hd hc) hit p.isList (by simp;exact lC 2 2268279672881 T1 hl hx) λh' x he' hx'=>?_;obtain⟨o,ho,hc⟩:=hx';refine Yc (Ul (T:="StopIteration") (b:=true) ⟨o,ho,hc⟩ isSubtype_stop (Ym ?_));exact⟨rfl,I.Fl (t':=s.toks) (λb o hb q=>he' b o (λz=>hb (by simp[z])) q) hf⟩
 self:=λ_ _ _ _ _ st h=>by obtain⟨⟨old,he⟩,_⟩:=st;exact Uh he h
section
variable {X:Cx} {es:List Expr} {k:Nat} {a:Expr} {p pos tpos kp cp:aF} {f:E3}
def ZoO(K:Yb)(ta:TA):TI:=λσ H R=>ta σ H λvs H1=>∃b,vs=[.ref b]/\∃xs,bK K H1 b xs/\R (ZsX λH xs=>bK K H b xs) H1
theorem Zhs{M:Model}{A:aU}{E:Yd->Yg->Prop}{s:Yg}{env:b7}{T:String}{e:Expr}{kws:List Keyword}(h:Y1 M A (Gj (bI pos (Yk [e] env))) (λvs s₁=>Y1 M A (evalAll ((ju pos (jt kws env)).map (·.2)))
   (λkvs s₂=>Y1 M A (call (.type T) vs (((ju pos (jt kws env)).filterMap (·.1)).zip kvs)) Q E s₂) E s₁) E s)(he:bI pos (Yk [e] env)=[(false,aA e env)])(hall:(ju pos (jt kws env)).all (·.1.isSome)=true)(hkw:(ju pos (jt kws env)).any (·.1.isNone)=false):
  Y1 M A (yU pos (.type T) [] (bI pos (Yk [e] env)) (ju pos (jt kws env))) Q E s:=by
 rw[he]at h ⊢;unfold yU;refine Yc (fP (dw (PyProof.Rows.evalArgs_kwB (Q:=λa s₁=>Y1 M A (call (.type T) a.pos a.kw) Q E s₁) hall h) (λa s₁ h₁=>Yc (pZ ?_)) λ_ _ x=>x));simp only[hkw,p7,List.any_nil,Vp];refine Yc (Ym (Yc ?_));exact dw h₁ (λr s₂ hr=>Yc (fP (yR (Ym hr)))) λ_ _ x=>x
theorem Zmu{ta:TA}{j}(hg:Gl X "enumerate")(hm:X.mg "enumerate" =Yi)(ha:PA X [a] ta)(he:bI pos (Yk [a] X.env)=[(false,aA a X.env)]):
  PI X (.Tuple es k tpos) (.Call (.Name "enumerate" p) [a] [⟨Ya "start",.Constant (.int 1) j cp,kp⟩] pos) (ZoO X.K ta):=by
 intro pins s σ H R I h;refine yM (zF I hg hm boot_enumerate (Zhs (aC (ha pos pins s σ H _ I h) λus s1 ak=>?_) he rfl rfl));obtain⟨vs,H1,I1,r1,q1⟩:=ak;refine aC ((ZoM (nm:=Ya "start") (kpos:=kp) (Xb (j:=j) (pos:=cp) (i:=1)) Zq7) pos pins s1 σ H1 (λzs H'=>zs=[.int 1]/\H'=H1) I1 ⟨rfl,rfl⟩) λws s2 Eh=>?_;obtain⟨zs,H2,I2,rz,rfl,rfl⟩:=Eh;obtain⟨b,e,xs,hq,q⟩:=q1;subst e;cases r1 with
 | cons r rr=>
  cases rr
  cases r
  cases rz with
  | cons r' rr=>
   cases rr
   obtain⟨t,rfl⟩:=r';have fp:∀c∈[s2.heap.objs.size+1,s2.heap.objs.size],gK X pins H2 c:=λc hc=>by
    have hc':s2.heap.objs.size<=c:=by simp only[Y5,uY,or_false]at hc;rcases hc with rfl|rfl <;>omega
    exact I2.wH hc' (I2.hok.fresh hc')
   obtain⟨its,rv,pl,hz⟩:=I2.list hq;refine ZjZ (t:=t) pl.isList λh' hE hI hk=>?_;have I3:Inv X pins σ H2 {s2 with heap:=h'}:=I2.kept (t':=s2.toks) hk;exact Uh (s:={s2 with heap:=h'}) hE ⟨_,[s2.heap.objs.size+1,s2.heap.objs.size],_,_,H2,rfl,I3,Zjq b _ _ (Nat.succ_ne_self _),⟨⟨_,hE⟩,hI⟩,fp,q⟩
theorem Zl6{j}(hm:X.mg "enumerate" =Yi)(h:C3 X a f)(hg:Gl X "enumerate":=by rfl)(he:bI pos (Yk [a] X.env)=[(false,aA a X.env)]:=by rfl)(hs':Yk (a::[]) X.env=(false,aA a X.env)::Yk [] X.env:=by rfl):
  CIL X (.Tuple es k tpos) (.Call (.Name "enumerate" p) [a] [⟨Ya "start",.Constant (.int 1) j cp,kp⟩] pos) (Jd f):=
 PI.imp (Zmu hg hm (Zb h Zg hs') he) λσ H R ak=>by
  obtain⟨ι,M,env,S,E,h⟩:=ak;obtain⟨d,M1,e1,h⟩:=yj.bind h;refine⟨ι,M,env,S,E,?_⟩;have e2:Za f Zd env M= .ok [d] M1:=by unfold Za;rw[e1];rfl
  rw[e2];intro vs H1 ι1 x1 S1 r1;obtain⟨v,ws,rfl,r,q⟩:=r1.cons_inv;have:=q.nil_inv;subst this;cases d with
  | ref n=>
   cases hm:M1[n]? with
   |none=>simp only[hm]at h;exact h.elim|some o=>
    cases o with
    | lst ds=>
     simp only[hm]at h;obtain⟨b,ha,rfl⟩:=r.dZ;obtain⟨vs,q,r⟩:=S1.obj n _ b hm ha;refine⟨b,rfl,vs,bK.of q,h _ H1 ι1 x1 S1 ?_⟩;intro i H2 ι2 M2 x S2 lk;have vX:M2[n]?=Ya (.lst ds):=by simpa[gQ]using lk
     obtain⟨vs2,q2,r2⟩:=S2.obj n _ b vX (x.pre _ _ ha);refine⟨λd hd=>?_,λhl=>⟨vs2,bK.of q2,by rw[r2.length,hl,Pg];exact Yq _⟩⟩;rw[Pb,Nat.add_comm 1 i]at hd;cases hq:ds[i]? with
     |none=>rw[hq]at hd;cases hd|some d0=>rw[hq]at hd;cases hd;obtain⟨v,hv,rv⟩:=r2.get hq;refine⟨⟨vs2,v,bK.of q2,hv⟩,λy H3 hy=>?_⟩;obtain⟨T,y',rfl,hT,rfl,hall⟩:=hy;have e:=hall vs2 (bK.of q2);rw[hv]at e;cases e;exact S2.wJ hT (Zo.cons Rep.int (Zo.cons rv Zo.nil))
    |_=>simp only[hm]at h;exact h.elim
  |_=>exact h.elim
end
end L3
namespace L3
open PySem PySem.Spec PyProof.Rows L2
set_option maxRecDepth 100000
def eO(b:Bool)(h:ao)(l:Yl)(its:Array Yd):Prop:=match b with
 |true=>h.IsList l its|false=>h.IsTuple l its
def cZ(b:Bool)(h:ao)(it l:Yl)(i:Nat):Prop:=match b with
 |true=>h.IsListIter it l i|false=>h.IsTupleIter it l i
def gm(b:Bool)(K:Yb)(H:Hp)(l:Yl)(xs:List V):Prop:=match b with
 |true=>bK K H l xs|false=>bY K H l xs
noncomputable def Ei:Bool->String
 |true=>"list_iterator"|false=>"tuple_iterator"
variable{b:Bool}{h:ao}{its:Array Yd}{l:Yl}
theorem eO.keep{h':ao}(k:∀o,h.get? l=Ya o->h'.get? l=Ya o)(x:eO b h l its):eO b h' l its:=by
 cases b with
 |true=>exact Heap.IsList.at x k|false=>exact Heap.IsTuple.at x k
variable{i:Nat}{it:Yl}
theorem cZ.keep{h':ao}(k:∀o,h.get? it=Ya o->h'.get? it=Ya o)(x:cZ b h it l i):cZ b h' it l i:=by
 cases b with
 |true=>exact Heap.IsListIter.at x k|false=>exact Heap.IsTupleIter.at x k
theorem cZ.there(x:cZ b h it l i):∃o,h.get? it=Ya o/\∀v,o.data≠ .cell v:=by
 cases b with
 |true=>obtain⟨o,ho,_,d⟩:=x;exact⟨o,ho,λv z=>by rw[d]at z;cases z⟩|false=>obtain⟨o,ho,_,d⟩:=x;exact⟨o,ho,λv z=>by rw[d]at z;cases z⟩
theorem eO.there(x:eO b h l its):l<h.objs.size:=by
 cases b with
 |true=>obtain⟨o,ho,_⟩:=x;exact Yv ho|false=>obtain⟨o,ho,_⟩:=x;exact Yv ho
theorem gm.at{X:Cx}{pins:List (Yl×aq)}{σ:St}{H:Hp}{s:Yg}{xs:List V}(I:Inv X pins σ H s)(x:gm b X.K H l xs):∃its:List Yd,Vals xs its/\eO b s.heap l its.toArray:=by
 cases b with
 |true=>obtain⟨its,r,p,_⟩:=I.list x;exact⟨its,r,p.isList⟩|false=>obtain⟨its,r,p,_⟩:=I.tuple x;exact⟨its,r,p⟩
theorem gm.inj{X:Cx}{pins:List (Yl×aq)}{σ:St}{H:Hp}{s:Yg}{xs ys:List V}(I:Inv X pins σ H s)(x:gm b X.K H l xs)(y:gm b X.K H l ys):xs=ys:=by
 cases b with
 |true=>exact I.Kw x y|false=>exact I.Ko x y
variable{k1 k2:Nat}{xs ys:Array Yd}{Q:Yd->Yg->Prop}{b1 b2:Bool}
section
variable {prog:Yz} {w:aD} {A:aU} {E:Yd->Yg->Prop} {s:Yg}
theorem nextK{x:Yd}(hi:cZ b s.heap it l i)(ho:eO b s.heap l its)(hx:its[i]?=Ya x)(hQ:∀h',cZ b h' it l (i+1)->y_ it s.heap h'->Q x {s with heap:=h'}):Y1 (Y9 prog w) A (qe (.ref it)) Q E s:=by
 cases b with
 |true=>exact wpAny_nextOf_list_item hi ho hx hQ|false=>exact ZeE hi ho hx hQ
theorem ZgX(hh:A.handled=Yi)(hi:cZ b s.heap it l i)(ho:eO b s.heap l its)(hx:its[i]?=Yi)(hE:∀h' e,Heap.ExtBut it s.heap h'->(∃o,h'.get? e=Ya o/\o.cls= .type "StopIteration")->E (.ref e) {s with heap:=h'}):Y1 (Y9 prog w) A (qe (.ref it)) Q E s:=by
 cases b with
 |true=>exact Ua hh hi ho hx hE|false=>exact Zfa hh hi ho hx hE
theorem ZpI(ho:eO b s.heap l its)(h:Q (.ref s.heap.objs.size) {s with heap:=s.heap.push {cls:=.type (Ei b),data:=.fields #[.ref l,.int 0 0]}}):
  Y1 (Y9 prog w) A (yX (.ref l)) Q E s:=by
 cases b with
 |true=>exact wO ho h|false=>exact Ue ho h
theorem cZ.new(e:h.get? it=Ya {cls:=.type (Ei b),data:=.fields #[.ref l,.int 0 0]}):cZ b h it l 0:=by
 cases b with
 |true=>exact⟨_,e,rfl,rfl⟩|false=>exact⟨_,e,rfl,rfl⟩
theorem ZlO{z TI TO i1 i2 l1 l2:Yl}{x y a b:Yd}(D:ZipApart z TI TO i1 i2 l1 l2)(hz:i_ s.heap z TI TO .none)(hTI:eY s.heap TI (.ref i1) (.ref i2))(hTO:eY s.heap TO a b)(h1:cZ b1 s.heap i1 l1 k1)(h2:cZ b2 s.heap i2 l2 k2)(hl1:eO b1 s.heap l1 xs)(hl2:eO b2 s.heap l2 ys)(hx:xs[k1]?=Ya x)(hy:ys[k2]?=Ya y)(hQ:∀h',i_ h' z TI TO (iZ s.heap.objs.size)->eY h' TO x y->cZ b1 h' i1 l1 (k1+1)->cZ b2 h' i2 l2 (k2+1)->eY h' s.heap.objs.size x y ->
   (∀c o,c≠z->c≠TO->c≠i1->c≠i2->s.heap.get? c=Ya o->h'.get? c=Ya o)->Q (.ref s.heap.objs.size) {s with heap:=h'}):
  Y1 (Y9 prog w) A (Builtin.«zip.__next__» ⟨[.ref z],[]⟩) (λfin s'=>∃v,fin= .done (.ret v)/\Q v s') E s:=by
 show Y1 _ _ (sV (.ref z) 2>>=λo=>_) _ _ _;refine Yc (fU hz rfl (x:=.bool false) rfl (show Y1 _ _ (sV (.ref z) 3>>=λo=>_) _ _ _ from ?_));refine Yc (fU hz rfl (x:=.ref TI) rfl (Yc (uP hTI rfl ?_)));refine(show Y1 _ _ (G5 (.ref z)>>=λo=>_) _ _ _ from Yc ?_);unfold G5;refine Yc (fU hz rfl (x:=.none) rfl (Ym ?_));simp only[if_true];refine Yc (Gf (Yc (fU hz rfl (x:=.ref TO) rfl ?_)));refine Yc (yN hz (by simp) λg1 hz1 hs1=>Yc ?_);replace hz1:i_ g1 z TI TO .ellipsis:=hz1;simp only[U9,Vc,LQ,Vf];refine Yc (Yc (BZ (show Y1 _ _ (qe (.ref i1)>>=λo=>_) _ _ _ from ?_)));refine Yc (nextK (h1.keep λo q=>hs1.extBut _ o D.i1z q) (hl1.keep λo q=>hs1.extBut _ o D.l1z q) hx λg2 h12 hs2=>Ym ?_);have BJ:eY g2 TO a b:=hs2.extBut _ _ D.TOi1 (hs1.extBut _ _ D.TOz hTO);refine Yc (uP BJ rfl (Yc (K7 BJ λg3 Fv hs3=>?_)));replace Fv:eY g3 TO x b:=Fv;refine Yc (Lj (Ym (Yc (Yc (BZ (show Y1 _ _ (qe (.ref i2)>>=λo=>_) _ _ _ from ?_))))));refine Yc (nextK (h2.keep λo q=>hs3.extBut _ o D.TOi2.symm (hs2.extBut _ o D.i12.symm (hs1.extBut _ o D.i2z q))) (hl2.keep λo q=>hs3.extBut _ o D.l2TO (hs2.extBut _ o D.l2i1 (hs1.extBut _ o D.l2z q))) hy λg4 h24 wg=>Ym ?_);have Th:eY g4 TO x b:=wg.extBut _ _ D.TOi2 Fv;refine Yc (uP Th rfl (Yc (K7 Th λg5 Fw wj=>?_)));replace Fw:eY g5 TO x y:=Fw;refine Yc (Lj (Ym (Ym (Yc (uP Fw rfl (Yc (wpAny_newTuple ?_)))))));have hsz:g5.objs.size=s.heap.objs.size:=by rw[wj.1,wg.1,hs3.1,hs2.1,hs1.1]
 have hz5:i_ g5 z TI TO .ellipsis:=wj.extBut _ _ D.TOz.symm (wg.extBut _ _ D.i2z.symm (hs3.extBut _ _ D.TOz.symm (hs2.extBut _ _ D.i1z.symm hz1)));have hk5:∀c o,c≠z->c≠TO->c≠i1->c≠i2->s.heap.get? c=Ya o->g5.get? c=Ya o:=λc o c1 c2 c3 c4 e=>wj.extBut _ _ c2 (wg.extBut _ _ c4 (hs3.extBut _ _ c2 (hs2.extBut _ _ c3 (hs1.extBut _ _ c1 e))));have h15:cZ b1 g5 i1 l1 (k1+1):=h12.keep λo q=>wj.extBut _ o D.TOi1.symm (wg.extBut _ o D.i12 (hs3.extBut _ o D.TOi1.symm q));have h25:cZ b2 g5 i2 l2 (k2+1):=h24.keep λo q=>wj.extBut _ o D.TOi2.symm q;have hzlt:z<g5.objs.size:=Yv hz5;refine(show Y1 _ _ (Vs (.ref z) (.ref g5.objs.size)>>=λo=>_) _ _ _ from Yc ?_);unfold Vs;have hz6:i_ (g5.push {cls:=.type "tuple",data:=.seq #[x,y]}) z TI TO .ellipsis:=Yh _ hz5;refine Yc (yN hz6 (by simp) λg7 QB hs7=>?_);replace QB:i_ g7 z TI TO (iZ g5.objs.size):=QB;refine yN QB (by simp) λg8 hz8 hs8=>?_;replace hz8:i_ g8 z TI TO (iZ g5.objs.size):=hz8;have up:∀c o,c≠z->g5.get? c=Ya o->g8.get? c=Ya o:=λc o c1 e=>hs8.extBut _ _ c1 (hs7.extBut _ _ c1 (Yh _ e));have hT8:eY g8 g5.objs.size x y:=hs8.extBut _ _ (Cp hzlt) (hs7.extBut _ _ (Cp hzlt) (Yu _ rfl));rw[hsz]at hz8 hT8;refine Ym ⟨_,rfl,(show Q (.ref g5.objs.size) _ from ?_)⟩;rw[hsz];exact hQ g8 hz8 (up _ _ D.TOz Fw) (h15.keep λo e=>up _ o D.i1z e) (h25.keep λo e=>up _ o D.i2z e) hT8 λc o c1 c2 c3 c4 e=>up c o c1 (hk5 c o c1 c2 c3 c4 e)
theorem Zns{z TI TO i1 i2 l1 l2:Yl}{a b:Yd}{Q:Fin->Yg->Prop}(hh:A.handled=Yi)(D:ZipApart z TI TO i1 i2 l1 l2)(hz:i_ s.heap z TI TO .none)(hTI:eY s.heap TI (.ref i1) (.ref i2))(hTO:eY s.heap TO a b)(h1:cZ b1 s.heap i1 l1 k1)(h2:cZ b2 s.heap i2 l2 k2)(hl1:eO b1 s.heap l1 xs)(hl2:eO b2 s.heap l2 ys)(hend:xs[k1]?=Yi\/ys[k2]?=Yi)(hE:∀h' e,(∀c o,c≠z->c≠TO->c≠i1->c≠i2->s.heap.get? c=Ya o->h'.get? c=Ya o)->(∃o,h'.get? e=Ya o/\o.cls= .type "StopIteration")->E (.ref e) {s with heap:=h'}):
  Y1 (Y9 prog w) A (Builtin.«zip.__next__» ⟨[.ref z],[]⟩) Q E s:=by
 show Y1 _ _ (sV (.ref z) 2>>=λo=>_) _ _ _;refine Yc (fU hz rfl (x:=.bool false) rfl (show Y1 _ _ (sV (.ref z) 3>>=λo=>_) _ _ _ from ?_));refine Yc (fU hz rfl (x:=.ref TI) rfl (Yc (uP hTI rfl ?_)));refine(show Y1 _ _ (G5 (.ref z)>>=λo=>_) _ _ _ from Yc ?_);unfold G5;refine Yc (fU hz rfl (x:=.none) rfl (Ym ?_));simp only[if_true];refine Yc (Gf (Yc (fU hz rfl (x:=.ref TO) rfl ?_)));refine Yc (yN hz (by simp) λg1 hz1 hs1=>Yc ?_);replace hz1:i_ g1 z TI TO .ellipsis:=hz1;simp only[U9,Vc,LQ,Vf];refine Yc (Yc (BZ (show Y1 _ _ (qe (.ref i1)>>=λo=>_) _ _ _ from ?_)));have h11:cZ b1 g1 i1 l1 k1:=h1.keep λo q=>hs1.extBut _ o D.i1z q;have Ti:eO b1 g1 l1 xs:=hl1.keep λo q=>hs1.extBut _ o D.l1z q;cases hx:xs[k1]? with
 |none=>
  refine Yc (ZgX hh h11 Ti hx λg2 e hs2 he=>?_);obtain⟨oe,hoe,hce⟩:=he;have hz2:i_ g2 z TI TO .ellipsis:=hs2 _ _ D.i1z.symm hz1;have hez:e≠z:=λq=>by subst q;rw[hz2]at hoe;cases hoe;simp at hce
  exact yN hz2 (by simp) λg3 _ hs3=>hE g3 e (λc o c1 _ c3 _ q=>hs3.extBut _ _ c1 (hs2 _ _ c3 (hs1.extBut _ _ c1 q))) ⟨oe,hs3.extBut _ _ hez hoe,hce⟩
 |some x=>
  have hy:ys[k2]?=Yi:=by rcases hend with q|q;rw[hx]at q;cases q;exact q
  refine Yc (nextK h11 Ti hx λg2 h12 hs2=>Ym ?_);have BJ:eY g2 TO a b:=hs2.extBut _ _ D.TOi1 (hs1.extBut _ _ D.TOz hTO);refine Yc (uP BJ rfl (Yc (K7 BJ λg3 Fv hs3=>?_)));refine Yc (Lj (Ym (Yc (Yc (BZ (show Y1 _ _ (qe (.ref i2)>>=λo=>_) _ _ _ from ?_))))));refine Yc (ZgX hh (h2.keep λo q=>hs3.extBut _ o D.TOi2.symm (hs2.extBut _ o D.i12.symm (hs1.extBut _ o D.i2z q))) (hl2.keep λo q=>hs3.extBut _ o D.l2TO (hs2.extBut _ o D.l2i1 (hs1.extBut _ o D.l2z q))) hy λg4 e wg he=>?_);obtain⟨oe,hoe,hce⟩:=he;have hz4:i_ g4 z TI TO .ellipsis:=wg _ _ D.i2z.symm (hs3.extBut _ _ D.TOz.symm (hs2.extBut _ _ D.i1z.symm hz1));have hez:e≠z:=λq=>by subst q;rw[hz4]at hoe;cases hoe;simp at hce
  exact yN hz4 (by simp) λg5 _ wj=>hE g5 e (λc o c1 c2 c3 c4 q=>wj.extBut _ _ c1 (wg _ _ c4 (hs3.extBut _ _ c2 (hs2.extBut _ _ c3 (hs1.extBut _ _ c1 q))))) ⟨oe,wj.extBut _ _ hez hoe,hce⟩
theorem Zid{z TI TO i1 i2 l1 l2:Yl}{x y a b:Yd}{Q:Option Yd->Yg->Prop}(D:ZipApart z TI TO i1 i2 l1 l2)(hz:i_ s.heap z TI TO .none)(hTI:eY s.heap TI (.ref i1) (.ref i2))(hTO:eY s.heap TO a b)(h1:cZ b1 s.heap i1 l1 k1)(h2:cZ b2 s.heap i2 l2 k2)(hl1:eO b1 s.heap l1 xs)(hl2:eO b2 s.heap l2 ys)(hx:xs[k1]?=Ya x)(hy:ys[k2]?=Ya y)(hQ:∀h',i_ h' z TI TO (iZ s.heap.objs.size)->eY h' TO x y->cZ b1 h' i1 l1 (k1+1)->cZ b2 h' i2 l2 (k2+1)->eY h' s.heap.objs.size x y ->
   (∀c o,c≠z->c≠TO->c≠i1->c≠i2->s.heap.get? c=Ya o->h'.get? c=Ya o)->Q (Ya (.ref s.heap.objs.size)) {s with heap:=h'}):
  Y1 (Y9 prog w) A (oE (.ref z)) Q E s:=by
 have hT:s.TypeIs (.ref z) "zip":=⟨_,hz,rfl⟩;unfold oE;exact Yc (yQ (uM (name:=jd "__next__") hT G6 (uO G6 hT Vx
  (ZlO D hz hTI hTO h1 h2 hl1 hl2 hx hy λh' a1 a2 a3 a4 a5 a6=>Ym (hQ h' a1 a2 a3 a4 a5 a6)) (Vw _))))
theorem Zjj{z TI TO i1 i2 l1 l2:Yl}{a b:Yd}{Q:Option Yd->Yg->Prop}(hh:A.handled=Yi)(D:ZipApart z TI TO i1 i2 l1 l2)(hz:i_ s.heap z TI TO .none)(hTI:eY s.heap TI (.ref i1) (.ref i2))(hTO:eY s.heap TO a b)(h1:cZ b1 s.heap i1 l1 k1)(h2:cZ b2 s.heap i2 l2 k2)(hl1:eO b1 s.heap l1 xs)(hl2:eO b2 s.heap l2 ys)(hend:xs[k1]?=Yi\/ys[k2]?=Yi)(hQ:∀h',(∀c o,c≠z->c≠TO->c≠i1->c≠i2->s.heap.get? c=Ya o->h'.get? c=Ya o)->Q Yi {s with heap:=h'}):Y1 (Y9 prog w) A (oE (.ref z)) Q E s:=by
 have hT:s.TypeIs (.ref z) "zip":=⟨_,hz,rfl⟩;unfold oE;refine Yc (yQ (uM (name:=jd "__next__") hT G6 (uO G6 hT Vx
  (Zns hh D hz hTI hTO h1 h2 hl1 hl2 hend λh' e hk he=>?_) (Vw _))))
 obtain⟨o,ho,hc⟩:=he;exact Yc (Ul (T:="StopIteration") (b:=true) ⟨o,ho,hc⟩ isSubtype_stop (Ym (hQ _ hk)))
end
noncomputable abbrev h_(b:Bool)(h:ao)(l:Yl):ao:=h.push {cls:=.type (Ei b),data:=.fields #[.ref l,.int 0 0]}
noncomputable abbrev Ao(b1 b2:Bool)(h:ao)(l1 l2:Yl):ao:=(h_ b2 (h_ b1 h l1) l2).push {cls:=.type "tuple",data:=.seq #[.ref h.objs.size,.ref (h_ b1 h l1).objs.size]}
noncomputable abbrev Ej(b1 b2:Bool)(h:ao)(l1 l2:Yl):ao:=(Ao b1 b2 h l1 l2).push {cls:=.type "tuple",data:=.seq #[.none,.none]}
noncomputable abbrev q8(b1 b2:Bool)(h:ao)(l1 l2:Yl):ao:=(Ej b1 b2 h l1 l2).push {cls:=.type "zip",data:=.fields #[.none,.bool false,.bool false,.ref (h_ b2 (h_ b1 h l1) l2).objs.size,.ref (Ao b1 b2 h l1 l2).objs.size]}
theorem ZjW(b1 b2:Bool)(l1 l2:Yl)(xs ys:Array Yd):
  Meets (Builtin.«zip.__new__» ⟨[.type "zip",.ref l1,.ref l2],[]⟩) (λ_ R s=>eO b1 s.heap l1 xs/\eO b2 s.heap l2 ys/\R (.ok (.ret (.ref (Ej b1 b2 s.heap l1 l2).objs.size))) {s with heap:=q8 b1 b2 s.heap l1 l2}):=
 .of_wp λprog w A R s h=>by
  obtain⟨hp,g,d,tk,os⟩:=s;obtain⟨hl1,hl2,h⟩:=h;have hsub:=sub_zip;have hL1:eO b1 (Nj ⟨hp,g,d,tk,os⟩) l1 xs:=hl1;have hL2:eO b2 (Nj ⟨h_ b1 hp l1,g,d,tk,os⟩) l2 ys:=hl2.keep λo q=>Yh _ q
  wp_walk using ZpI hL1,ZpI hL2
  exact⟨_,rfl,h⟩
theorem ZlJ{prog:Yz}{w:aD}{A:aU}{E:Yd->Yg->Prop}{s:Yg}{l1 l2:Yl}(hl1:eO b1 s.heap l1 xs)(hl2:eO b2 s.heap l2 ys)(h:∀h',i_ h' (s.heap.objs.size+4) (s.heap.objs.size+2) (s.heap.objs.size+3) .none->eY h' (s.heap.objs.size+2) (.ref s.heap.objs.size) (.ref (s.heap.objs.size+1)) ->
   eY h' (s.heap.objs.size+3) .none .none->cZ b1 h' s.heap.objs.size l1 0->cZ b2 h' (s.heap.objs.size+1) l2 0->(∀c o,s.heap.get? c=Ya o->h'.get? c=Ya o)->Q (.ref (s.heap.objs.size+4)) {s with heap:=h'}):
  Y1 (Y9 prog w) A (call (.type "zip") [.ref l1,.ref l2]) Q E s:=by
 refine callType_new F.called_zip (by decide) (F.typeCall_zip_2 _ _) (F.newCall_zip_2 _ _) (λobj=>F.args_object_init_3 obj _ _) F.entry_zip_new (ZjW b1 b2 l1 l2 xs ys) ⟨hl1,hl2,?_⟩;have z1:(h_ b1 s.heap l1).objs.size=s.heap.objs.size+1:=uV ..;have z2:(h_ b2 (h_ b1 s.heap l1) l2).objs.size=s.heap.objs.size+2:=(uV ..).trans (by rw[z1]);have z3:(Ao b1 b2 s.heap l1 l2).objs.size=s.heap.objs.size+3:=(uV ..).trans (by rw[z2]);have z4:(Ej b1 b2 s.heap l1 l2).objs.size=s.heap.objs.size+4:=(uV ..).trans (by rw[z3]);have p5:∀{c o},(Ej b1 b2 s.heap l1 l2).get? c=Ya o->(q8 b1 b2 s.heap l1 l2).get? c=Ya o:=λq=>Yh _ q;have p4:∀{c o},(Ao b1 b2 s.heap l1 l2).get? c=Ya o->(q8 b1 b2 s.heap l1 l2).get? c=Ya o:=λq=>p5 (Yh _ q);have p3:∀{c o},(h_ b2 (h_ b1 s.heap l1) l2).get? c=Ya o->(q8 b1 b2 s.heap l1 l2).get? c=Ya o:=λq=>p4 (Yh _ q);have p2:∀{c o},(h_ b1 s.heap l1).get? c=Ya o->(q8 b1 b2 s.heap l1 l2).get? c=Ya o:=λq=>p3 (Yh _ q);have g5:(q8 b1 b2 s.heap l1 l2).get? (Ej b1 b2 s.heap l1 l2).objs.size=Ya {cls:=.type "zip",data:=.fields #[.none,.bool false,.bool false,.ref (h_ b2 (h_ b1 s.heap l1) l2).objs.size,.ref (Ao b1 b2 s.heap l1 l2).objs.size]}:=Yu _ rfl;have g4:(q8 b1 b2 s.heap l1 l2).get? (Ao b1 b2 s.heap l1 l2).objs.size=Ya {cls:=.type "tuple",data:=.seq #[.none,.none]}:=p5 (Yu _ rfl);have g3:(q8 b1 b2 s.heap l1 l2).get? (h_ b2 (h_ b1 s.heap l1) l2).objs.size=Ya {cls:=.type "tuple",data:=.seq #[.ref s.heap.objs.size,.ref (h_ b1 s.heap l1).objs.size]}:=p4 (Yu _ rfl);have g2:(q8 b1 b2 s.heap l1 l2).get? (h_ b1 s.heap l1).objs.size=Ya {cls:=.type (Ei b2),data:=.fields #[.ref l2,.int 0 0]}:=p3 (Yu _ (by cases b2<;>rfl));have g1:(q8 b1 b2 s.heap l1 l2).get? s.heap.objs.size=Ya {cls:=.type (Ei b1),data:=.fields #[.ref l1,.int 0 0]}:=p2 (Yu _ (by cases b1<;>rfl));rw[z4,z2,z3]at g5;rw[z2,z1]at g3;rw[z3]at g4;rw[z1]at g2;show _/\_;rw[z4];exact⟨⟨_,g5,rfl⟩,h _ g5 g3 g4 (cZ.new g1) (cZ.new g2) λc o q=>p2 (Yh _ q)⟩
def ZqC(b1 b2:Bool)(z TI TO i1 i2 l1 l2:Yl)(i:Nat)(h:ao):Prop:=i_ h z TI TO .none/\eY h TI (.ref i1) (.ref i2)/\(∃a b,eY h TO a b)/\cZ b1 h i1 l1 i/\cZ b2 h i2 l2 i
theorem ZlH{P:Yz}{w:aD}{K:Yb}{es:List Expr}{k:Nat}{pos:aF}(b1 b2:Bool)(l1 l2 z TI TO i1 i2:Yl)(Z:ZipApart z TI TO i1 i2 l1 l2):
  Turn P w K (.Tuple es k pos) (Itz (λH xs=>gm b1 K H l1 xs) (λH ys=>gm b2 K H l2 ys)) [z,TI,TO,i1,i2] z (ZqC b1 b2 z TI TO i1 i2 l1 l2)where
 mem:=by simp
 obj:=λi h st b hb=>by
  obtain⟨hz,h1,⟨a,c,h2⟩,g1,g2⟩:=st;simp only[Y5,uY,or_false]at hb;rcases hb with rfl|rfl|rfl|rfl|rfl
  .exact⟨_,hz,λv z=>by cases z⟩
  .exact⟨_,h1,λv z=>by cases z⟩
  .exact⟨_,h2,λv z=>by cases z⟩
  .exact g1.there
  .exact g2.there
 keep:=λi h h' st k=>by obtain⟨hz,h1,⟨a,c,h2⟩,g1,g2⟩:=st;exact⟨k z (by simp) _ hz,k TI (by simp) _ h1,⟨a,c,k TO (by simp) _ h2⟩,g1.keep λo q=>k i1 (by simp) o q,g2.keep λo q=>k i2 (by simp) o q⟩
 item:=by
  intro X hP hw hK hc i pins s σ H E I hf st hg;subst hP hw hK;obtain⟨xs,ys,x,y,hx,hy,gx,gy⟩:=hg;obtain⟨its,rv,p⟩:=gm.at I hx;obtain⟨its2,Aq,p2⟩:=gm.at I hy;obtain⟨u,hu,ru⟩:=rv.get gx;obtain⟨v,hv,rv'⟩:=Aq.get gy;obtain⟨hz,h1,⟨a,c,h2⟩,g1,g2⟩:=st;have hlt:∀b∈[z,TI,TO,i1,i2],b<s.heap.objs.size:=λb hb=>by
   obtain⟨o1,q1,_⟩:=g1.there;obtain⟨o2,q2,_⟩:=g2.there;simp only[Y5,uY,or_false]at hb;rcases hb with rfl|rfl|rfl|rfl|rfl
   .exact Yv hz
   .exact Yv h1
   .exact Yv h2
   .exact Yv q1
   .exact Yv q2
  refine Zid Z hz h1 h2 g1 g2 p p2 (x:=u) (y:=v) (by simpa using hu) (by simpa using hv) λh' hz' hTO hi1 hi2 hT hk=>?_;refine⟨_,rfl,wpAny_letOwnedTupleGo_zip (s:={s with heap:=h'}) hz' λh'' hz'' hs''=>?_⟩;have Aha:eY h' TI (.ref i1) (.ref i2):=hk TI _ Z.TIz Z.TITO Z.TIi1 Z.TIi2 h1;obtain⟨I2,n2⟩:=Zl4 (x:=x) (y:=y) (tk':=s.toks) (fp:=[z,TI,TO,i1,i2]) (h':=h') (h'':=h'') I hf hlt ru rv' hT
   (λb o hb q=>hk b o (λe=>hb (by simp[e])) (λe=>hb (by simp[e])) (λe=>hb (by simp[e])) (λe=>hb (by simp[e])) q)
   (λb o hb q=>(hs''.2 b λe=>hb (by simp[e])).trans q)
  refine⟨.ref s.heap.objs.size,_,I2,rfl,⟨_,x,y,rfl,I.hok.fresh (Yq _),rfl,λzs hq=>by rw[gm.inj I hq hx];exact gx,λzs hq=>by rw[gm.inj I hq hy];exact gy⟩,?_,n2⟩;exact⟨hz'',(hs''.2 _ Z.TIz).trans Aha,⟨_,_,(hs''.2 _ Z.TOz).trans hTO⟩,hi1.keep λo q=>(hs''.2 _ Z.i1z).trans q,hi2.keep λo q=>(hs''.2 _ Z.i2z).trans q⟩
 done:=by
  intro X hP hw hK hc i pins s σ H E I hf st hg;subst hP hw hK;obtain⟨xs,ys,hx,hy,ho⟩:=hg;obtain⟨its,rv,p⟩:=gm.at I hx;obtain⟨its2,Aq,p2⟩:=gm.at I hy;have hl1:=rv.length;have hl2:=Aq.length;obtain⟨hz,h1,⟨a,c,h2⟩,g1,g2⟩:=st;refine Zjj (I.ok.hd hc) Z hz h1 h2 g1 g2 p p2 ?_ λh' hk=>⟨rfl,I.Fl (t':=s.toks) (λb o hb q=>hk b o (λe=>hb (by simp[e])) (λe=>hb (by simp[e])) (λe=>hb (by simp[e])) (λe=>hb (by simp[e])) q) hf⟩;rcases ho with ho|ho
  .left;simp;exact lC 2 1237490667521 T1 ho hl1
  .right;simp;exact lC 2 1237490667521 T1 ho hl2
 self:=λ_ _ _ _ _ st h=>Um st.1 h
section
variable {X:Cx} {es:List Expr} {k:Nat} {a b:Expr} {p pos tpos:aF} {f g:E3}
def Zrm(K:Yb)(ta:TA):TI:=λσ H R=>ta σ H λvs H1=>∃b1 b2 l1 l2,vs=[.ref l1,.ref l2]/\(∃xs,gm b1 K H1 l1 xs)/\(∃ys,gm b2 K H1 l2 ys)/\R (Itz (λH xs=>gm b1 K H l1 xs) (λH ys=>gm b2 K H l2 ys)) H1
theorem ZoI{ta:TA}(hg:Gl X "zip")(hm:X.mg "zip" =Yi)(ha:PA X [a,b] ta)(hs:Yk [a,b] X.env=[(false,aA a X.env),(false,aA b X.env)]:=by rfl)(hs2:Yk [b] X.env=[(false,aA b X.env)]:=by rfl):PI X (.Tuple es k tpos) (.Call (.Name "zip" p) [a,b] [] pos) (Zrm X.K ta):=by
 intro pins s σ H R I h;refine Call_ (zF I hg hm ZlI (MK (aC (ha pos pins s σ H _ I h) λus s1 ⟨vs,H1,I1,r1,q1⟩=>?_) (by rw[hs,hs2]) (by rw[hs2];rfl)));obtain⟨b1,b2,l1,l2,e,⟨xs,hx⟩,⟨ys,hy⟩,q⟩:=q1;subst e;cases r1 with
 | cons r rr=>
  cases rr with
  | cons r' rr=>
   cases rr
   cases r
   cases r'
   obtain⟨its,rv,p1⟩:=gm.at I1 hx;obtain⟨its2,Aq,p2⟩:=gm.at I1 hy;refine ZlJ p1 p2 λh' hZ hTI hTO hi1 hi2 hk=>?_;have I2:Inv X pins σ H1 {s1 with heap:=h'}:=I1.kept (t':=s1.toks) hk;have fp:∀c∈[s1.heap.objs.size+4,s1.heap.objs.size+2,s1.heap.objs.size+3,s1.heap.objs.size,s1.heap.objs.size+1],gK X pins H1 c:=λc hc=>by
    have hc':s1.heap.objs.size<=c:=by simp only[Y5,uY,or_false]at hc;rcases hc with rfl|rfl|rfl|rfl|rfl <;>omega
    exact I1.wH hc' (I1.hok.fresh hc')
   exact Um (s:={s1 with heap:=h'}) hZ ⟨_,_,_,_,H1,rfl,I2,ZlH b1 b2 l1 l2 _ _ _ _ _ (zipApart_new p1.there p2.there),⟨hZ,hTI,⟨_,_,hTO⟩,hi1,hi2⟩,fp,q⟩
theorem ZiB{K:Yb}{H:Hp}{ι:List Yl}{M:Store}{d:D}{v:V}{x:List D}{l:List (Nat×List D)}(S:Zu K H ι M)(r:Rep K H ι d v)(e:vP M d=Ya (x,l)):
  ∃b a,v= .ref a/\(∃vs,gm b K H a vs)/\∀H2 ι2 M2,Ext K H ι H2 ι2->Zu K H2 ι2 M2->gQ l M2=true->∃vs,gm b K H2 a vs/\Zo K H2 ι2 x vs:=by
 cases d with
 |tup ds=>obtain⟨a,vs,rfl,s,r⟩:=r.gF;cases e;exact⟨false,a,rfl,⟨vs,s⟩,λH2 ι2 M2 x S2 _=>⟨vs,x.tup _ _ s,r.mono x⟩⟩|ref n=>
  unfold vP at e;cases hm:M[n]? with
  |none=>simp only[hm]at e;cases e|some o=>
   cases o with
   |lst ds=>
    simp only[hm]at e;obtain⟨rfl,rfl⟩:ds=x/\[(n,ds)]=l:=by simpa using e
    obtain⟨a,ha,rfl⟩:=r.dZ;obtain⟨vs,q,_⟩:=S.obj n _ a hm ha;refine⟨true,a,rfl,⟨vs,bK.of q⟩,λH2 ι2 M2 x S2 lk=>?_⟩;have vX:M2[n]?=Ya (.lst ds):=by simpa[gQ]using lk
    obtain⟨vs2,q2,r2⟩:=S2.obj n _ a vX (x.pre _ _ ha);exact⟨vs2,bK.of q2,r2⟩
   |_=>simp only[hm]at e;cases e
 |_=>cases e
theorem Zkh(hm:X.mg "zip" =Yi)(h1:C3 X a f)(h2:C3 X b g)(hg:Gl X "zip":=by rfl)(hs:Yk [a,b] X.env=[(false,aA a X.env),(false,aA b X.env)]:=by rfl)(hs2:Yk [b] X.env=[(false,aA b X.env)]:=by rfl)(hs':Yk (a::[b]) X.env=(false,aA a X.env)::Yk [b] X.env:=by rfl)(hs'':Yk (b::[]) X.env=(false,aA b X.env)::Yk [] X.env:=by rfl):CIL X (.Tuple es k tpos) (.Call (.Name "zip" p) [a,b] [] pos) (t_ f g):=
 PI.imp (ZoI hg hm (Zb h1 (Zb h2 Zg hs'') hs') hs hs2) λσ H R ak=>by
  obtain⟨ι,M,env,S,E,h⟩:=ak;obtain⟨d,M1,e1,h⟩:=yj.bind h;obtain⟨d2,M2,e2,h⟩:=yj.bind h;refine⟨ι,M,env,S,E,?_⟩;have e3:Za f (Za g Zd) env M= .ok [d,d2] M2:=by simp only[Za,Zd,R3.bind,e1,e2]
  rw[e3];intro vs H1 ι1 x1 S1 r1;obtain⟨v,ws,rfl,r,q⟩:=r1.cons_inv;obtain⟨v2,JF,rfl,r2,q2⟩:=q.cons_inv;have:=q2.nil_inv;subst this;cases q1:vP M2 d with
  |none=>simp only[q1]at h;exact h.elim|some xl=>
   cases q2:vP M2 d2 with
   |none=>simp only[q1,q2]at h;exact h.elim|some yk=>
    obtain⟨x,l⟩:=xl;obtain⟨y,k⟩:=yk;simp only[q1,q2]at h;obtain⟨b1,a1,rfl,w1,f1⟩:=ZiB S1 r q1;obtain⟨b2,a2,rfl,w2,f2⟩:=ZiB S1 r2 q2;refine⟨b1,b2,a1,a2,rfl,w1,w2,h _ H1 ι1 x1 S1 ?_⟩;intro i H2 ι2 M3 xx S2 lk;have vX:gQ l M3=true/\gQ k M3=true:=by simpa[gQ]using lk
    obtain⟨QC,p1,q1⟩:=f1 H2 ι2 M3 xx S2 vX.1;obtain⟨JF,p2,q2⟩:=f2 H2 ι2 M3 xx S2 vX.2;refine⟨λd hd=>?_,λhl=>⟨QC,JF,p1,p2,by rw[q1.length,q2.length,hl,Pk];omega⟩⟩;rw[Pj]at hd;cases hq:x[i]? with
    |none=>rw[hq]at hd;cases hd|some a0=>
     cases hq2:y[i]? with
     |none=>rw[hq,hq2]at hd;cases hd|some b0=>rw[hq,hq2]at hd;cases hd;obtain⟨v1,hv1,rv1⟩:=q1.get hq;obtain⟨v2,hv2,Aq⟩:=q2.get hq2;refine⟨⟨QC,JF,v1,v2,p1,p2,hv1,hv2⟩,λy H3 hy=>?_⟩;obtain⟨T,y1,y2,rfl,hT,rfl,ha1,ha2⟩:=hy;have e:=ha1 QC p1;rw[hv1]at e;cases e;have e:=ha2 JF p2;rw[hv2]at e;cases e;exact S2.wJ hT (Zo.cons rv1 (Zo.cons Aq Zo.nil))
end
noncomputable section
end
noncomputable section
end
noncomputable section
end
noncomputable section
end
end L3
namespace PySem.W
open PySem PySem.Spec PySem.Calls PyProof.Rows Builtin Builtin.ObjectAttr
section
variable {prog:Yz} {w:aD} {K:Frag} {x D:Yl} {name:aj} {v:Yd}
theorem Ztc{A:aU}{R:sS->Yg->Prop}{s:Yg}{tk:dX}(hb:mroIn K D (.type "BaseException")=Ya true)(X:K.In s.heap)(p:mQ x D s.heap)(L3:Looks (Y9 prog w) s.heap (find (.ref x) (.ref D) name) (.value v))(hq:R (.ok (.ret v)) s):mU (Y9 prog w) A (.call (.builtin "BaseException.__getattribute__") ⟨[.ref x,.str name tk],[]⟩) R s:=by
 obtain⟨hh,gg,dd,tt,oo⟩:=s;have L0:=p.ty (Y9 prog w);have L1:=looks_mroIn (M:=Y9 prog w) X hb;have hk:builtinKind "BaseException.__getattribute__" =Ya .slot:=by decide +kernel
 have hs:splitId "BaseException.__getattribute__" =Ya ("BaseException","__getattribute__"):=by decide +kernel
 have hz:=Vz (.ref x) (.str name tk);refine wN F.excAttr_ValueError.ga.plain Vy ?_;simp only[BR,hk,hs];refine Yc ?_;unfold B_
 repeat lk
 exact hq
theorem AgK{A:aU}{E:Yd->Yg->Prop}{s:Yg}{Q:Yd->Yg->Prop}{b:Bool}(hg:findIn K (.ref D) "__getattribute__" =Ya (Ya (.builtin "BaseException.__getattribute__")))(hg2:findIn K (.ref D) "__getattr__" =Ya Yi)(hb:mroIn K D (.type "BaseException")=Ya true)(X:K.In s.heap)(p:mQ x D s.heap)(L:Looks (Y9 prog w) s.heap (find (.ref x) (.ref D) name) (.value v))(hv:handedIn v=true)(hq:Q v {s with toks:=s.toks+1}):Y1 (Y9 prog w) A (getAttr (.ref x) name b) Q E s:=by obtain⟨hh,gg,dd,tt,oo⟩:=s;have L0:=p.ty (Y9 prog w);have L1:=looks_findIn (M:=Y9 prog w) X hg;have L2:=looks_findIn (M:=Y9 prog w) X hg2;have f3:=F.excAttr_ValueError.ga.bind (.ref x);unfold getAttr getAttrBy;refine Yc (Lh (fP (Yc (L0.at (Yc (L1.at ?_))))));show Y1 _ _ (FW _ _ _ _ _ _) _ _ _;unfold FW hookBefore Uk;refine Yc (L2.at (Yc (yQ (fP ?_))));rw[show(b&&onTheHeap (.builtin "BaseException.__getattribute__"))=false from by cases b<;>rfl,if_neg (by decide)];show Y1 _ _ (F_ _ _ _) _ _ _;unfold F_;rw[f3];refine Yc (Ym ?_);refine p6 (Ztc hb X p L ?_);exact handed_on hv hq
theorem Agv{M:Model}{h:ao}{o:aq}{vs:Array Yd}{dx:Yl}{m:aj->Option Yd}{cd:ClassData}(X:K.In h)(hx:h.get? x=Ya o)(hc:o.cls= .ref D)(hd:o.data= .fields vs)(hdx:o.dict=Ya dx)(hn:h.Ns1 dx m)(hm:m name=Ya v)(cl:clsIn K D=Ya cd)(hh:cd.hasDict=true)(hf:findIn K (.ref D) name=Ya Yi):Looks M h (find (.ref x) (.ref D) name) (.value v):=by
 refine(looks_findIn (M:=M) X hf).andThen ((show Looks M h (getOf Yi) Yi from .now).andThen ((show Looks M h (dataDescriptor? Yi Yi) Yi from .now).andThen ?_));have L:=looks_clsIn (M:=M) X cl;have own:Looks M h (inOwnDict name (.ref x)) (Ya v):=by intro A Q E s k q;obtain⟨o2,es,ep,e1,e2,e3,e4,e5⟩:=hn;refine Yc (Yc (Ld (k _ _ hx) ?_));rw[hd];unfold instanceDict;refine Yc (Ld (k _ _ hx) ?_);rw[hc];refine Yc (L A _ E s k ?_);rw[hh,hdx];refine Ym (a:=Ya dx) ?_;refine wpAny_nsGet ⟨o2,es,ep,k _ _ e1,e2,e3,λ_=>rfl⟩ ?_;rw[e5 name,hm];exact q
 exact own.andThen (Looks.tag .now)
end
end PySem.W
namespace PySem.W
open PySem PySem.Spec PySem.Calls PyProof.Rows Builtin Builtin.ObjectAttr
section
variable {prog:Yz} {w:aD} {K:Frag} {x D CL:Yl} {name:aj} {v:Yd} {cd:ClassData}
noncomputable abbrev n_:List Yd:=[.type "ValueError",.type "Exception",.type "BaseException",.type "object"]
theorem ZqQ{M:Model}{A:aU}{E:Yd->Yg->Prop}{Q:Unit->Yg->Prop}{s:Yg}{a b:Yd}(X:K.In s.heap)(p:mQ x D s.heap)(ho:mroIn K D (.type "object")=Ya true)(hq:Q () s):
  Y1 M A (BR "object.__setattr__" ⟨[.ref x,a,b],[]⟩) Q E s:=by
 obtain⟨h,g,d,t,os⟩:=s;have L0:=p.ty M;have L3:=looks_mroIn (M:=M) X ho;have hz:=F.store_ValueError.args (.ref x) a b;simp only[BR,F.store_ValueError.kind,F.store_ValueError.split];refine Yc ?_;unfold B_
 repeat lk
 exact hq
theorem Ztu{A:aU}{R:sS->Yg->Prop}{s:Yg}{tk:dX}{o:aq}{vs:Array Yd}(X:K.In s.heap)(hx:s.heap.get? x=Ya o)(hc:o.cls= .ref D)(hd:o.data= .fields vs)(hdn:o.dict=Yi)(cl:clsIn K D=Ya cd)(hh:cd.hasDict=true)(hm:cd.mro= .ref D:: .ref CL::n_)(hf:findIn K (.ref D) name=Ya Yi)(ho:mroIn K D (.type "object")=Ya true)(hq:∀h' tk',h'.get? x=Ya {o with dict:=Ya s.heap.objs.size}->h'.Ns1 s.heap.objs.size (λy=>if y=name then Ya v else Yi)->(∀b ob,b≠x->s.heap.get? b=Ya ob->h'.get? b=Ya ob)->R (.ok (.ret .none)) {s with heap:=h',toks:=tk'}):
  mU (Y9 prog w) A (.call (.builtin "object.__setattr__") ⟨[.ref x,.str name tk,v],[]⟩) R s:=by
 have p:mQ x D s.heap:=⟨o,hx,hc⟩;refine wN F.store_ValueError.slot.plain F.store_ValueError.entry (ZqQ X p ho ?_);obtain⟨h,g,d,t,os⟩:=s;have L0:=p.ty (Y9 prog w);have L2:=looks_findIn (M:=Y9 prog w) X hf;have L5:=looks_clsIn (M:=Y9 prog w) X cl;have L4:Looks (Y9 prog w) h (mroOf (.ref D)) cd.mro:=L5.andThen .now;have pass:refuseLoop (.ref x) "__setattr__" cd.mro=pure ():=by rw[hm,refuseLoop_ref,refuseLoop_ref];exact F.store_ValueError.passes _
 unfold Builtin.«object.__setattr__»;refine Yc ?_;rw[refuse_eq];refine Yc (L0.at (Yc (L4.at ?_)));rw[pass];refine Ym (Yc (Ym (Yc (L0.at (Yc (L2.at (Yc (Ym ?_))))))));show Y1 _ _ (storeInOwnDict _ _ _ _ _ _) _ _ _;unfold storeInOwnDict ownDictForStores instanceDict
 repeat(first|(with_reducible refine yO hx ?_;rw[hc])|with_reducible refine Looks.at (by assumption) ?_|wp_step)
 rw[hdn,hd];have hx1:(h.push {cls:=.type "dict",data:=.dict #[]}).get? x=Ya o:=Yh _ hx;have hxs:x≠h.objs.size:=dM (Yv hx);refine Yc (wpAny_alloc' (Yc (wpAny_update' hx1 (Ym ?_))));have g1:((h.push {cls:=.type "dict",data:=.dict #[]}).update x λo=>{cls:=o.cls,dict:=Ya h.objs.size,data:=o.data,slots:=o.slots}).get? h.objs.size=Ya {cls:=.type "dict",data:=.dict #[]}:=(Us _ _ _ _ hxs.symm).trans (Lw rfl rfl);have fr:=(Heap.get?_some_iff.mp hx).2;have g2:((h.push {cls:=.type "dict",data:=.dict #[]}).update x λo=>{cls:=o.cls,dict:=Ya h.objs.size,data:=o.data,slots:=o.slots}).get? x=Ya {o with dict:=Ya h.objs.size}:=by refine yZ _ hx1 ?_;obtain⟨oc,od,oa,osl⟩:=o;cases oa<;>first|rfl|exact fr
 show Y1 _ _ (storeInDict h.objs.size (.str name tk) name v) _ _ _;unfold storeInDict newKeyGuard;refine Yc (Ym (Yc (wpAny_nsSet1 (Wv ⟨_,#[],_,g1,rfl,λe he=>absurd he (by simp),λ_=>rfl⟩) λh' hn' hs=>?_)));obtain⟨oD,esD,epD,hoD,hdD,hcD⟩:=hn'.count (Within.cons name v Within.nil);refine Yc (wpAny_lookBehind hoD (by rw[hdD];exact pastItsLine_dict (Ys hcD (by rw[iC,wZ,iy];omega))) ?_)
 wp_walk
 exact hq h' _ ((hs.2 x hxs).trans g2) hn' λb ob hb q=>(hs.2 b (dM (Yv q))).trans ((Us _ _ _ _ hb).trans (Yh _ q))
theorem S_{A:aU}{E:Yd->Yg->Prop}{s:Yg}{Q:Unit->Yg->Prop}{o:aq}{vs:Array Yd}(X:K.In s.heap)(hx:s.heap.get? x=Ya o)(hc:o.cls= .ref D)(hd:o.data= .fields vs)(hdn:o.dict=Yi)(cl:clsIn K D=Ya cd)(hh:cd.hasDict=true)(hm:cd.mro= .ref D:: .ref CL::n_)(hsa:findIn K (.ref D) "__setattr__" =Ya (Ya (.builtin "object.__setattr__")))(hf:findIn K (.ref D) name=Ya Yi)(ho:mroIn K D (.type "object")=Ya true)(hq:∀h' tk',h'.get? x=Ya {o with dict:=Ya s.heap.objs.size}->h'.Ns1 s.heap.objs.size (λy=>if y=name then Ya v else Yi)->(∀b ob,b≠x->s.heap.get? b=Ya ob->h'.get? b=Ya ob)->Q () {s with heap:=h',toks:=tk'}):
  Y1 (Y9 prog w) A (setAttr (.ref x) name v) Q E s:=by
 obtain⟨h,g,d,t,os⟩:=s;have p:mQ x D h:=⟨o,hx,hc⟩;have L0:=p.ty (Y9 prog w);have L1:=looks_findIn (M:=Y9 prog w) X hsa;have f3:=F.store_ValueError.slot.bind (.ref x);unfold setAttr callSpecial? specialOf;refine Yc (Lh (Yc (Yc (Yc (L0.at (L1.at ?_))))));refine fP (Yc ?_);rw[f3];refine Ym (Yc (p6 (Ztu X hx hc hd hdn cl hh hm hf ho λh' tk' a b c=>?_)));exact Ym (Ym (hq h' tk' a b c))
end
end PySem.W
namespace PySem.W
open PySem PySem.Spec PySem.Calls PyProof.Rows
section
variable {prog:Yz} {w:aD} {A:aU} {E:Yd->Yg->Prop} {h:ao} {g:Array GenState} {d:Drawn} {t:Nat} {os:OsState}
variable {nm q:aj} {C N:Yl} {bs bm:List Yd} {hdct:Bool} {sn:List aj} {sub:List Yd} {ab:Bool} {col:Option Bool} {dd:Option Yl} {k0 k1 k2 k3 k5:Option Yd}
theorem Ztl(T:OwnTail h n_ bm){mN:aj->Option Yd}{rest:List Yd}{fI:Yl}{oI:aq}{Q:Fin->Yg->Prop}(hC:h.get? C=Ya (iz nm q C N bs bm hdct sn sub ab col dd k0 k1 k2 k3 k5 "ValueError.__new__"))(hn:h.Ns N mN)(hi:mN "__init__" =Ya (.ref fI))(hfI:h.get? fI=Ya oI)(hfc:oI.cls= .type "function")(hrest:rest.length<=Y6)(hq:∀h' e,Heap.MadeExcOf h h' e (.ref C) rest->Y1 (Y9 prog w) A (call (.ref fI) (.ref e::rest)) (λr s'=>r= .none/\Q (.done (.ret (.ref e))) s') E ⟨h',g,d,t,os⟩):
  Y1 (Y9 prog w) A (Builtin.«type.__call__» ⟨.ref C::rest,[]⟩) Q E ⟨h,g,d,t,os⟩:=by
 have Fb:=zj;have hB:n_.contains (.type "ValueError")=true:=by decide
 repeat(first
  |with_reducible refine yO hC ?_
  |with_reducible refine wpAny_madeBy_exc hC ?_
  |wp_step)
 refine codeAny_call_builtin_code (Hq _ Fb.quiet) (wpAny_check_new_subU Fb hB T hC (codeAny_exc_new_subU Fb hB Fb T hC ?_ hrest));show Y1 _ _ _ _ _ _;generalize ht:({cls:=.type "tuple",data:=.seq rest.toArray}:aq)=tup;generalize he:({cls:=.ref C,data:=.fields #[.ref h.objs.size,.none,.none,.none,.bool false,.none]}:aq)=ex;have up:∀b o,h.get? b=Ya o->((h.push tup).push ex).get? b=Ya o:=λb o z=>Yh _ (Yh _ z);have C1:=up _ _ hC;have ge:((h.push tup).push ex).get? (h.objs.size+1)=Ya ex:=by refine Lw (by rw[uV]) ?_;rw[←he];rfl
 have ec:ex.cls= .ref C:=by rw[←he]
 have cC:(Value.ref C::bm).contains (.ref C)=true:=by simp
 unfold B_
 repeat(first
  |(with_reducible refine yO ge ?_;rw[ec])
  |(with_reducible refine Ud C1 ?_;rw[cC])
  |wp_step)
 show Y1 _ _ (Lp (.ref C) _) _ _ _;refine wpAny_typeLookup_tail C1 (hn.keeps up) (T.keeps up) Fb.mroIs Fb.init.lookup ?_;rw[hi];refine fP (Yc ?_);unfold bindSpecial;refine Yc (Gb (T:="function") ⟨_,up _ _ hfI,hfc⟩ ?_);rw[if_pos (by decide)];refine Ym (Yc (dw (hq _ (h.objs.size+1) ⟨up,Cd (Nat.le_succ _),h.objs.size,?_,Cd (Yq _),?_⟩) (λr s' z=>?_) λ_ _ z=>z))
 .rw[ge,←he]
 .rw[ht];exact Yh _ (Lw rfl (by rw[←ht];rfl))
 .obtain⟨rfl,z⟩:=z
  wp_walk
  exact z
theorem Sy(T:OwnTail h n_ bm){mN:aj->Option Yd}{rest:List Yd}{fI:Yl}{oI:aq}{Q:Yd->Yg->Prop}(hC:h.get? C=Ya (iz nm q C N bs bm hdct sn sub ab col dd k0 k1 k2 k3 k5 "ValueError.__new__"))(hn:h.Ns N mN)(hi:mN "__init__" =Ya (.ref fI))(hfI:h.get? fI=Ya oI)(hfc:oI.cls= .type "function")(hrest:rest.length<=Y6)(hq:∀h' e,Heap.MadeExcOf h h' e (.ref C) rest->Y1 (Y9 prog w) (A.under (.builtin "type.__call__" ⟨.ref C::rest,[]⟩)) (call (.ref fI) (.ref e::rest)) (λr s'=>r= .none/\Q (.ref e) s') E ⟨h',g,d,t,os⟩):
  Y1 (Y9 prog w) A (call (.ref C) rest) Q E ⟨h,g,d,t,os⟩:=by
 have f1:=tc_lookup;have f2:=tc_bind (.ref C);have hT:(⟨h,g,d,t,os⟩:Yg).TypeIs (.ref C) "type":=⟨_,hC,rfl⟩;refine p6 (Uq ?_);show Y1 _ _ (callAny (.ref C) _) _ _ _
 repeat(any_goals(first
  |assumption
  |with_reducible refine yO hC ?_
  |wp_step))
 exact⟨rfl,codeAny_call_builtin_at (Hq _ (by decide +kernel)) entry_typeCall (wpAny_check_type_call_sub hC (Ztl T hC hn hi hfI hfc hrest hq))⟩
theorem AfE{M:Model}{s:Yg}{env:b7}{x:lF Yd}{Q:Flow->Yg->Prop}(hbase:bm.contains (.type "BaseException")=true)(hh:A.handled=Yi)(hx:Y1 M A x (λv s₁=>∃e dx vs sl,v= .ref e/\s₁.heap.get? C=Ya (iz nm q C N bs bm hdct sn sub ab col dd k0 k1 k2 k3 k5 "ValueError.__new__")/\
   s₁.heap.get? e=Ya {cls:=.ref C,dict:=dx,data:=.fields vs,slots:=sl}/\vs[1]?=Ya .none/\E (.ref e) s₁) E s):Y1 M A (raiseStmt env (Ya x) Yi) Q E s:=by
 have cB:(Value.ref C::bm).contains (.type "BaseException")=true:=by rw[U0,hbase,Bool.or_true]
 unfold raiseStmt;refine Yc (dw hx (λv s₁ z=>?_) λ_ _ z=>z);obtain⟨e,dx,vs,sl,rfl,hC,he,h1,hE⟩:=z;obtain⟨hp,g,d,tk,os⟩:=s₁
 repeat(first
  |with_reducible refine yO he ?_
  |with_reducible refine yO hC ?_
  |(with_reducible refine Ud hC ?_;rw[cB])
  |with_reducible refine fU he rfl h1 ?_
  |wp_step)
 exact wpAny_raiseNew_none hh hE
end
end PySem.W
namespace PySem.W
open PySem PySem.Spec PySem.Calls PyProof.Rows
section
variable {prog:Yz} {w:aD} {A:aU} {E:Yd->Yg->Prop} {h:ao} {g:Array GenState} {d:Drawn} {t:Nat} {os:OsState}
variable {nm q:aj} {C N:Yl} {bs bm:List Yd} {hdct:Bool} {sn:List aj} {sub:List Yd} {ab:Bool} {col:Option Bool} {dd:Option Yl} {k0 k1 k2 k3 k5:Option Yd}
theorem Agw(T:OwnTail h n_ bm)(hC:h.get? C=Ya (iz nm q C N bs bm hdct sn sub ab col dd k0 k1 k2 k3 k5 "ValueError.__new__")){e:Yl}{dx:Option Yl}{vs:Array Yd}{sl:Array (Option Yd)}{a:Yd}{R:sS->Yg->Prop}(he:h.get? e=Ya {cls:=.ref C,dict:=dx,data:=.fields vs,slots:=sl})(hs:1<vs.size){tv:Yl}(h0:vs[0]?=Ya (.ref tv))(hq:∀h' t0,h'.get? e=Ya {cls:=.ref C,dict:=dx,data:=.fields (vs.setIfInBounds 0 (.ref t0)),slots:=sl}->(∀b o,b≠e->h.get? b=Ya o->h'.get? b=Ya o)->R (.ok (.ret .none)) ⟨h',g,d,t,os⟩):
  mU (Y9 prog w) A (.call (.builtin "ValueError.__init__") ⟨[.ref e,a],[]⟩) R ⟨h,g,d,t,os⟩:=by
 have Fb:=zj;refine wN Fb.init.plain Fb.initEntry (wpAny_check_init_subU Fb T hC he rfl ?_)
 wp_walk
 rw[h0]
 wp_walk
 rw[if_pos (tE Vk hs)]
 wp_walk
 have g2:=yZ (xj (·.setIfInBounds 0 (Value.ref h.objs.size))) (Yh {cls:=.type "tuple",data:=.seq [a].toArray} he) rfl;exact hq _ h.objs.size g2 λb o hb z=>(wW _ _ (cP hb)).trans (Yh _ z)
theorem Agx{K:Frag}{CL:Yl}{pl:lF Bool}{Q:Yd×List Yd->Yg->Prop}{s:Yg}(X:K.In s.heap)(hg:specialIn K (.ref CL) "__getattribute__" =Ya (Ya (.builtin "type.__getattribute__")))(hr:readsIn K CL (.type "type")=true)(hf:findCls K (.ref CL) (.type "type") "__init__" =Ya (.val (.builtin "ValueError.__init__")))(hq:Q (.builtin "ValueError.__init__",[]) {s with toks:=s.toks+1}):Y1 (Y9 prog w) A (getMethod (.ref CL) "__init__" pl) Q E s:=method_cls X hg (cls_value X hr hf (by decide +kernel) hq)
end
end PySem.W
namespace L3
open PySem PySem.Spec PyProof.Rows L2
def Ar(e C:Yl)(dd:Option Yl)(h:ao):Prop:=∃vs sl tv,h.get? e=Ya {cls:=.ref C,dict:=dd,data:=.fields vs,slots:=sl}/\1<vs.size/\vs[0]?=Ya (.ref tv)/\vs[1]?=Ya .none
noncomputable abbrev bM(e C:Yl)(dd:Option Yl):HO:=.ext (Ar e C dd)
theorem JG{P:Yz}{w:aD}{H:Hp}{h:ao}{e C:Yl}{dd:Option Yl}(x:Ar e C dd h):bR P w H h e (bM e C dd):=⟨x,(let⟨_,_,_,q,_⟩:=x;⟨_,q⟩),λ_ _ z k=>let⟨vs,sl,tv,a,b⟩:=z;⟨vs,sl,tv,k _ a,b⟩⟩
section
variable {X:Cx} {pins:List (Yl×aq)} {σ:St} {H:Hp} {s:Yg} {e:Yl} {φ φ':ao->Prop} {h':ao} {t':Nat}
theorem JH(I:Inv X pins σ H s){b:Yl}(q:s.heap.get? b=Yi):H b=Yi:=by
 cases z:H b with
 |none=>rfl|some u=>obtain⟨o,ho⟩:=Dj (I.hok b u z);rw[q]at ho;cases ho
theorem ZkC(I:Inv X pins σ H s)(he:H e=Ya (.ext φ))(keep:∀b u,b≠e->s.heap.get? b=Ya u->h'.get? b=Ya u)(ok:∀H',bR X.prog X.w H' h' e (.ext φ')):Inv X pins σ (upd H e (.ext φ')) {s with heap:=h',toks:=t'}:=by
 have nb:∀{b u},H b=Ya u->(∀ψ,u≠ .ext ψ)->b≠e:=λ{b u} q n z=>by rw[z,he]at q;cases q;exact n _ rfl
 have n0:∀{b},H b=Yi->b≠e:=λ{b} q z=>by rw[z,he]at q;cases q
 refine I.un ⟨λb u q n _ _=>keep b u (n0 n) q,λb u q n _ _=>⟨u.slots,keep b u (n0 n) q⟩,λb u q n _=>by rw[Zk (n0 n)];exact n,λb u q _=>?_,λb xs q=>by rw[Zk (nb q (λ_ z=>nomatch z))];exact q,
  λb u xs q=>by rw[Zk (nb q (λ_ z=>nomatch z))];exact q,λb ps q=>⟨#[],by rw[Zk (nb q (λ_ z=>nomatch z)),q];simp⟩⟩ λb u q=>?_
 .by_cases hb:b=e
  .rw[hb];exact(ok H).2.1
  .exact⟨u,keep b u hb q⟩
 .by_cases hb:b=e
  .subst hb;rw[cU]at q;cases q;exact ok _
  .rw[Zk hb]at q;refine(I.hok b u q).stay (λc v hc z=>keep c v ?_ z) (λc z=>by rw[Zk (nb z (λ_ z=>nomatch z))];exact z) λc xs z=>by rw[Zk (nb z (λ_ z=>nomatch z))];exact z
   rcases hc with rfl|hc
   .exact hb
   .exact nb hc (λ_ z=>nomatch z)
theorem ZiO{dx:Yl}{o2:HO}(I:Inv X pins σ H s)(he:H e=Ya (.ext φ))(hdx:s.heap.get? dx=Yi)(keep:∀b u,b≠e->s.heap.get? b=Ya u->h'.get? b=Ya u)(ok:∀H',bR X.prog X.w H' h' e (.ext φ'))(ok2:∀H',bR X.prog X.w H' h' dx o2):
  Inv X pins σ (upd (upd H e (.ext φ')) dx o2) {s with heap:=h',toks:=t'}:=by
 have hd0:=JH I hdx;have nb:∀{b u},H b=Ya u->(∀ψ,u≠ .ext ψ)->b≠e:=λ{b u} q n z=>by rw[z,he]at q;cases q;exact n _ rfl
 have n0:∀{b},H b=Yi->b≠e:=λ{b} q z=>by rw[z,he]at q;cases q
 have nd:∀{b u},H b=Ya u->b≠dx:=λ{b u} q z=>by rw[z,hd0]at q;cases q
 have nh:∀{b u},s.heap.get? b=Ya u->b≠dx:=λ{b u} q z=>by rw[z,hdx]at q;cases q
 refine I.un ⟨λb u q n _ _=>keep b u (n0 n) q,λb u q n _ _=>⟨u.slots,keep b u (n0 n) q⟩,λb u q n _=>by rw[Zk (nh q),Zk (n0 n)];exact n,λb u q _=>?_,λb xs q=>by rw[Zk (nd q),Zk (nb q (λ_ z=>nomatch z))];exact q,
  λb u xs q=>by rw[Zk (nd q),Zk (nb q (λ_ z=>nomatch z))];exact q,λb ps q=>⟨#[],by rw[Zk (nd q),Zk (nb q (λ_ z=>nomatch z)),q];simp⟩⟩ λb u q=>?_
 .by_cases hb:b=e
  .rw[hb];exact(ok H).2.1
  .exact⟨u,keep b u hb q⟩
 .by_cases hd:b=dx
  .subst hd;rw[cU]at q;cases q;exact ok2 _
  .rw[Zk hd]at q;by_cases hb:b=e
   .subst hb;rw[cU]at q;cases q;exact ok _
   .rw[Zk hb]at q;refine(I.hok b u q).stay (λc v hc z=>keep c v ?_ z) (λc z=>by rw[Zk (nd z),Zk (nb z (λ_ z=>nomatch z))];exact z) λc xs z=>by rw[Zk (nd z),Zk (nb z (λ_ z=>nomatch z))];exact z
    rcases hc with rfl|hc
    .exact hb
    .exact nb hc (λ_ z=>nomatch z)
end
structure yp(K:Yb)(C CL fI:Yl)(f:aj):Prop where
 obj:∃(na q:aj) (N:Yl) (bs bm:List Yd) (hdct:Bool) (sn:List aj) (sub:List Yd) (ab:Bool) (col:Option Bool) (dd:Option Yl) (k0 k1 k2 k3 k5:Option Yd),
  K.lookup C=Ya (iz na q C N bs bm hdct sn sub ab col dd k0 k1 k2 k3 k5 "ValueError.__new__")/\(∀h:ao,K.In h->∃mN,h.Ns N mN/\mN "__init__" =Ya (.ref fI))/\∀h:ao,K.In h->OwnTail h PySem.W.n_ bm
 cls:∃cd,iY K C=Ya cd/\cd.hasDict=true/\cd.mro= .ref C:: .ref CL::PySem.W.n_
 sa:Yr K (.ref C) "__setattr__" =Ya (Ya (.builtin "object.__setattr__"))
 nf:Yr K (.ref C) f=Ya Yi
 mo:eX K C (.type "object")=Ya true
 ga:wL K (.ref CL) "__getattribute__" =Ya (Ya (.builtin "type.__getattribute__"))
 rd:FJ K CL (.type "type")=true
 fc:FN K (.ref CL) (.type "type") "__init__" =Ya (.val (.builtin "ValueError.__init__"))
section
variable {X:Cx} {a b o value:Expr} {f x:aj} {p1 p2 p3 pos pos' apos:aF} {C CL fI:Yl} {ta tv:TE}
theorem Zqb{H:Hp}{e:Yl}{u:HO}(h:H e=Ya u):upd H e u=H:=by
 funext z;by_cases q:z=e
 .rw[q,cU,h]
 .rw[Zk q]
theorem ZlE(O:yp X.K C CL fI f):cj X (.builtin "ValueError.__init__") (λxs H Q=>∃e y,xs=[.ref e,.str y]/\H e=Ya (bM e C Yi)/\Q .non H):=by intro pins s σ H xs us Q I r z;obtain⟨e,y,rfl,he,hq⟩:=z;obtain⟨u,v,rfl,ru,rv⟩:=vals2 r;cases ru;obtain⟨na,q,N,bs,bm,hdct,sn,sub,ab,col,dd,k0,k1,k2,k3,k5,lk,_,hT⟩:=O.obj;obtain⟨⟨vs,sl,tv,h1,h2,h3,h4⟩,_⟩:=(show bR X.prog X.w H s.heap e (bM e C Yi)from I.hok e _ he);obtain⟨h,g,d,t,os⟩:=s;refine p6 (PySem.W.Agw (hT _ I.bF) (I.bF _ _ lk) h1 h2 h3 λh' t0 g1 k1=>?_);have I2:=ZkC (φ':=Ar e C Yi) (t':=t) I he (λb u hb z=>k1 b u hb z) λH'=>JG ⟨_,sl,t0,g1,by simpa using h2,by simp[tE Vk h2],by rw[V8 (by decide)];exact h4⟩;rw[Zqb he]at I2;exact⟨.non,H,I2,rfl,hq⟩
theorem Zkm(O:yp X.K C CL fI f){es:List Expr}{e:Expr}{t:TA}(hm:X.mg x=Ya (.ref CL))(ha:PA X (e::es) t)(hg:Gl X x:=by rfl)(hdb:(x==("__debug__":aj))=false:=by decide){pl:lF Bool}(he:Yk (e::es) X.env=(false,aA e X.env)::Yk es X.env:=by rfl)(hpl:(bI pos (Yk es X.env)).any (·.1)=false:=by rfl)(ht:aA (.Call (.Attribute (.Name x p1) "__init__" apos) (e::es) [] pos) X.env=(do
   let ov ←aA (.Name x p1) X.env
   yV apos.atName
   let(f,first) ←sO [ov] (getMethod ov "__init__" pl)
   yU pos f first (bI pos (Yk (e::es) X.env)) (ju pos (jt [] X.env))):=by rfl):
  PE X (.Call (.Attribute (.Name x p1) "__init__" apos) (e::es) [] pos) (zJ (λxs H Q=>∃e y,xs=[.ref e,.str y]/\H e=Ya (bM e C Yi)/\Q .non H) t):=by
 intro pins s σ H Q I h;refine PySem.W.methodCall_KW (pl:=pl) (qw I hg hm (PySem.W.Agx I.bF O.ga O.rd O.fc ?_) hdb) ht;exact VL (aC (ha pos pins _ σ H _ (I.tok _) h) λus s1 z=>let⟨vs,H1,I1,r1,q1⟩:=z;ZlE O pins s1 σ H1 vs us Q I1 r1 q1) he hpl
theorem Zjl{i:Int}(h:i.natAbs.log2<1000):(jd (ql i)).length<=10000:=by have e:=int_text_length_le (k:=1000) (by decide) h;rw[PySem.ofString_length];omega
theorem Zn9{ca cb:aj}{q9 yq}(hv:PE X value tv)(hl:ca.length+cb.length<=100:=by decide +kernel):
  PE X (.JoinedStr [.Constant (.str ca) q9 p1,.FormattedValue value (-1) Yi p2,.Constant (.str cb) yq p3] pos) (λσ H Q=>tv σ H λy H1=>∃i,y= .int i/\i.natAbs.log2<1000/\∀z,Q (.str z) H1):=by
 intro pins s σ H Q I h;have z0:(mZ++ca).length<=Y6:=by rw[jr,iy];have:Str.empty.length=0:=rfl;omega
 refine Lb ?_;show Y1 _ _ (aA (.Constant (.str ca) q9 p1) X.env) _ _ s;refine aC (zE pins s σ H (λv H'=>v= .str ca/\H'=H) I ⟨rfl,rfl⟩) λu s1 z=>?_;obtain⟨v,H1,I1,r1,e1,e2⟩:=z;subst e1 e2;obtain⟨t1,rfl⟩:=r1;refine⟨ca,t1,rfl,z0,?_⟩;show Y1 _ _ (aA (.FormattedValue value (-1) Yi p2) X.env) _ _ s1;refine T8 (aC (hv pins s1 σ _ _ I1 h) λu2 s2 z=>?_);obtain⟨y,H2,I2,r2,i,e1,hi,hq⟩:=z;subst e1;obtain⟨t2,rfl⟩:=r2;have zi:=Zjl hi;have z1:(mZ++ca++jd (ql i)).length<=Y6:=by rw[jr,jr,iy];have:Str.empty.length=0:=rfl;omega
 have z2:(mZ++ca++jd (ql i)++cb).length<=Y6:=by rw[jr,jr,jr,iy];have:Str.empty.length=0:=rfl;omega
 refine Ub (tE hi (by decide)) ⟨_,_,rfl,z1,?_⟩;show Y1 _ _ (aA (.Constant (.str cb) yq p3) X.env) _ _ _;refine aC (zE pins _ σ H2 (λv H'=>v= .str cb/\H'=H2) (I2.tok _) ⟨rfl,rfl⟩) λu3 s3 z=>?_;obtain⟨v,H3,I3,r3,e1,e2⟩:=z;subst e1 e2;obtain⟨t3,rfl⟩:=r3;exact⟨cb,t3,rfl,z2,z2,⟨.str _,_,I3.tok _,⟨_,rfl⟩,hq _⟩⟩
theorem ZoP(O:yp X.K C CL fI f)(ha:PE X o ta)(hv:PE X value tv)(hs:sJ value (Ya (.Attribute o f pos')) pos.line X.env=pure false:=by rfl):
  PS X (.Assign [.Attribute o f pos'] value pos) (λD σ H=>tv σ H λy H1=>ta σ H1 λx H2=>∃e i,x= .ref e/\y= .int i/\H2 e=Ya (bM e C Yi)/\∀dx od,H2 dx=Yi->D.nx σ (upd (upd H2 e (bM e C (Ya dx))) dx (.bA od (.xd [(f,.int i)])))):=by
 intro pins s σ H D I h;refine T7 (aC (hv pins s σ H _ I h) λu s1 z=>?_) hs;obtain⟨y,H1,I1,ry,q⟩:=z;refine aC (ha pins s1 σ H1 _ I1 q) λov s2 z=>?_;obtain⟨x,H2,I2,rx,e,i,ex,ey,he,q2⟩:=z;subst ex ey;obtain rfl:ov=Value.ref e:=rx;obtain⟨ti,rfl⟩:=ry;obtain⟨cd,c1,c2,c3⟩:=O.cls;obtain⟨⟨vs,sl,tv,h1,h2,h3,h4⟩,_⟩:=(show bR X.prog X.w H2 s2.heap e (bM e C Yi)from I2.hok e _ he);refine PySem.W.S_ I2.bF h1 rfl rfl rfl c1 c2 c3 O.sa O.nf O.mo λh' tk' g1 g2 k1=>?_;have hdx:s2.heap.get? s2.heap.objs.size=Yi:=Cd (Yq _);obtain⟨od,es,ep,e1,e2,e3,e4,e5⟩:=id g2;refine⟨σ,_,ZiO (φ':=Ar e C (Ya s2.heap.objs.size)) (o2:=.bA od (.xd [(f,.int i)])) I2 he hdx k1 (λH'=>JG ⟨vs,sl,tv,g1,h2,h3,h4⟩) (λH'=>⟨e1,_,g2,λn=>?_⟩),q2 _ od (JH I2 hdx)⟩;by_cases hn:n=f
 .rw[hn,if_pos rfl,gH,beq_self_eq_true];exact⟨ti,rfl⟩
 .rw[if_neg hn,gH,beq_eq_false_iff_ne.mpr hn];exact trivial
end
end L3
set_option linter.all false
namespace L3
noncomputable section
noncomputable def Ek(c f:List Nat)(g:bW):S3:=λenv M=>match g env M with
 | .ok [.int i] M1=>if i.natAbs.log2<1000 then .exc ⟨c,.ref M1.length⟩ (M1++[.ins (0::c) [(f,.int i)]])else .bad|_=>.bad
end
end L3
set_option Elab.async false
set_option linter.all false
set_option maxRecDepth 100000
namespace L3
open PySem PySem.Spec PyProof.Rows L2
noncomputable def JK(C:Yl)(f:aj):Sp:=λvs H Q _=>∃e i,vs=[.ref e,.int i]/\i.natAbs.log2<1000/\H e=Ya (bM e C Yi)/\∀dx od,H dx=Yi->Q .non (upd (upd H e (bM e C (Ya dx))) dx (.bA od (.xd [(f,.int i)])))
section
variable {P:Yz} {w:aD} {K:Yb} {mg:aj->Option Yd} {base:ao}
theorem fnI{k:Nat}{C fI:Yl}{f x qual:aj}{st:Ydr}{fd:fC}{N ps:List aj}(F:nC K x qual st fI fd)(S:dY N ps (Zq st))(hl:ps.length=2)(hb:∀(cdv:Yd) (A:aU) (outer:List b7) (s:Yg) (H:Hp) (E:XK),bZ k (A.deeper (jz qual (Zq st) s.heap.objs.size fI cdv))->∃t,gJ (lQ (jl P w) P w K mg base N qual (Zq st) fI cdv A outer s H E) (gM st) t/\
   ∀D e i,i.natAbs.log2<1000->H e=Ya (bM e C Yi)->(∀dx od,H dx=Yi->D.nx (L2.start N [.ref e,.int i]) (upd (upd H e (bM e C (Ya dx))) dx (.bA od (.xd [(f,.int i)]))))->t D (L2.start N [.ref e,.int i]) H):
  dN P w K mg base (jl P w) (k+1) fI fd ps (JK C f):=by
 obtain⟨oc,od,dV,kV,doc,pm,an,cdv,ct,osl,rfl,lk,hcd⟩:=F.ex;refine Ie lk hcd S (λvs H Q E ⟨e,i,r,_⟩=>by rw[r,hl];rfl) λA outer s H vs Q E hr ak=>?_;obtain⟨e,i,rfl,hi,he,hq⟩:=ak;obtain⟨t,ht,q⟩:=hb cdv A outer s H E hr;exact⟨t,ht,q _ e i hi he hq⟩
end
section
variable {X:Cx} {pins:List (Yl×aq)} {σ:St} {H:Hp} {s s':Yg}
theorem Znh(I:Inv X pins σ H s){h':ao}{e C:Yl}{vs:List Yd}(m:Heap.MadeExcOf s.heap h' e (.ref C) vs):H e=Yi/\Inv X pins σ (upd H e (bM e C Yi)) {s with heap:=h'}:=by
 have hn:H e=Yi:=JH I m.new;obtain⟨t,ht,_,_⟩:=m.there;have xo:Ar e C Yi h':=⟨_,_,t,ht,by simp,rfl,rfl⟩;have ne:∀b o,s.heap.get? b=Ya o->b≠e:=λb o q z=>by subst z;rw[m.new]at q;cases q
 have un:Un X.fs [] H (upd H e (bM e C Yi)) s.heap h':=
  ⟨λb u q _ _ _=>m.keeps b u q,
   λb u q _ _ _=>⟨u.slots,m.keeps b u q⟩,
   λb u q n _=>by rw[Zk (ne b u q)];exact n,
   λb u q _=>⟨u,m.keeps b u q⟩,
   λb xs q=>by rw[Zk (jA q hn)];exact q,
   λb u xs q=>by rw[Zk (jA q hn)];exact q,
   λb ps q=>⟨#[],by rw[Zk (jA q hn),q];simp⟩⟩
 have hok:cJ X.prog X.w (upd H e (bM e C Yi)) h':=λb u q=>by
  by_cases hb:b=e
  .subst hb;rw[cU]at q;cases q;exact JG xo
  .rw[Zk hb]at q;exact(I.hok b u q).stay (λc v _ z=>m.keeps c v z) (λc z=>by rw[Zk (jA z hn)];exact z) λc xs z=>by rw[Zk (jA z hn)];exact z
 exact⟨hn,I.un (t':=s.toks) un hok⟩
theorem ZpM{σ':St}{H':Hp}(I:Inv X pins σ H s){e C:Yl}{dd:Option Yl}(hnew:s.heap.get? e=Yi)(I':Inv X pins σ' H' s')(he:H' e=Ya (bM e C dd)):
  Inv X pins σ' (upd H' e (jH e C dd)) s'/\Jw X e C (upd H' e (jH e C dd)) s':=by
 obtain⟨⟨vs,sl,tv,h1,h2,h3,h4⟩,_⟩:=(show bR X.prog X.w H' s'.heap e (bM e C dd)from I'.hok e _ he);have xo:vQ e C dd s'.heap:=⟨_,_,h1,rfl,rfl,rfl⟩;have ne:∀b o,s.heap.get? b=Ya o->b≠e:=λb o q z=>by subst z;rw[hnew]at q;cases q
 have old:∀{b o},X.s₀.heap.get? b=Ya o->b∉X.fs->b∉X.ex->b∉e::frs X.stack:=λ{b o} q hb hx z=>by
  rcases Y5.mp z with z|z
  .obtain⟨o1,q1⟩:=I.base.there b o q hx;exact ne b o1 q1 z
  .exact Ed I' q hb z
 refine⟨ZkC (t':=s'.toks) (h':=s'.heap) I' he (λb u _ q=>q) λ_=>Qp xo,dd,cU,Fz s'.heap (e::frs X.stack),⟨.ref tv,.inr ⟨λb o q=>Fy _ q,TF _ (.head _),?_,_,_,h1,rfl,rfl,h3,h4,rfl⟩⟩,⟨λb hb hne=>?_,λb o q n hb hx=>?_,λb o q hb hx=>?_⟩,λp hp=>?_⟩
 .exact Tz I'.stack λenv he a ha=>.tail _ (Gv.mpr ⟨env,he,ha⟩)
 .rw[Zk hne]at hb;obtain⟨u,q⟩:=Tq.mp hb;obtain⟨o,ho⟩:=Dj (I'.hok b u q);exact⟨o,sy _ ho λz=>(Y5.mp z).elim hne λz=>hb (I'.Fj b z)⟩
 .exact sy _ (I'.base.keep b o q n hb hx) (old q hb hx)
 .obtain⟨o1,q1⟩:=I'.base.there b o q hx;exact⟨o1,sy _ q1 (old q hb hx)⟩
 .obtain⟨q,n,n2,nf,_⟩:=I'.pin p (uW _ hp);obtain⟨q0,_⟩:=I.pin p (uW _ hp);exact sy _ q λz=>(Y5.mp z).elim (ne _ _ q0) λz=>(Y5.mp (I'.wD p.1 z)).elim n2 nf
end
section
variable {X:Cx}
theorem ZkD{H:Hp}{e dx:Yl}{u1 u2 u3 v:HO}(h:dx≠e):upd (upd (upd (upd H e u1) e u2) dx v) e u3=upd (upd H dx v) e u3:=by
 funext z;by_cases q:z=e
 .rw[q,cU,cU]
 .rw[Zk q,Zk q];by_cases q2:z=dx
  .rw[q2,cU,cU]
  .rw[Zk q2,Zk q2,Zk q,Zk q]
theorem ZjT{any:Bool}{c f:List Nat}{C CL fI:Yl}{k:Nat}{fd:fC}{ps:List aj}{x:aj}{np cpos pos:aF}{a:Expr}{as:List Expr}{gl:bW}(O:yp X.K C CL fI (nm f))(aZ:ClsAt X.K c C)(hfn:(X.K.lookup fI).map (·.cls)=Ya (.type "function"))(G:dN X.prog X.w X.K X.mg X.base (jl X.prog X.w) k fI fd ps (JK C (nm f)))(bi:Binds X.K fd ps [])(hr:bZ (k+1) X.A)(hm:X.mg x=Ya (.ref C))(ha:CA X.gw (a::as) gl)(hc:X.calm=true:=by rfl)(hg:Gl X x:=by rfl)(hdb:(x==("__debug__":aj))=false:=by decide)(he:Yk (a::as) X.env=(false,aA a X.env)::Yk as X.env:=by rfl)(hpl:(bI cpos (Yk as X.env)).any (·.1)=false:=by rfl):oZ X any (.Raise (Ya (.Call (.Name x np) (a::as) [] cpos)) Yi pos) (Ek c f gl):=by
 obtain⟨na,q,N,bs,bm,hdct,sn,sub,ab,col,dd,k0,k1,k2,k3,k5,lk,hN,hT⟩:=O.obj;obtain⟨oI,lI,cI⟩:∃oI,X.K.lookup fI=Ya oI/\oI.cls= .type "function":=by
  cases z:X.K.lookup fI with
  |none=>rw[z]at hfn;cases hfn|some oI=>rw[z]at hfn;exact⟨oI,rfl,Y3 hfn⟩
 intro pins s σ H D I z;obtain⟨ι,M,env,S,E,h⟩:=z;unfold Ek at h;split at h
 .rename_i i M1 qg;split at h
  .rename_i hi;have hplain:(bI cpos (Yk (a::as) X.env)).any (·.1)=false:=by rw[he];show(false|| (bI cpos (Yk as X.env)).any (·.1))=false;rw[hpl];rfl
   rw[arm_exec_Raise];refine Yc (pZ (PySem.W.AfE (C:=C) (nm:=na) (q:=q) (N:=N) (bs:=bs) (bm:=bm) (hdct:=hdct) (sn:=sn) (sub:=sub) (ab:=ab) (col:=col) (dd:=dd) (k0:=k0) (k1:=k1) (k2:=k2) (k3:=k3) (k5:=k5)
    ((hT X.base I.ok.mod.vg).hasType (by decide)) (I.ok.hd hc) ?_))
   refine Yc (dw (K_ (qw I hg hm ?_ hdb)) (λv s₃ h₃=>Yc (pZ (Ym h₃))) λ_ _ x=>x);unfold yU;refine Yc (fP ?_);have key:=Ef (pos:=cpos) (R:=λus s2=>∃vs H1 ι1,Inv X pins σ H1 s2/\Vals vs us/\Ext X.K H ι H1 ι1/\Zu X.K H1 ι1 M1/\Zo X.K H1 ι1 [.int i] vs) ha I S E qg (λus s1 vs H1 ι1 I1 r x1 S1 r1=>⟨vs,H1,ι1,I1,r,x1,S1,r1⟩);rw[hplain];rw[he]at key ⊢;refine zr (dw key (λus s2 zz=>?_) λ_ _ y=>y);obtain⟨vs,H1,ι1,I1,r,x1,S1,r1⟩:=zz;obtain⟨hp,g,d,tk,os⟩:=s2;refine Yc (pZ ?_);refine Yc (K8 (I1.bF _ _ lk) ?_);obtain⟨mN,hns,hni⟩:=hN _ I1.bF;have l1:us.length=1:=by rw[←r.length,r1.length];rfl
   refine Yc (PySem.W.Sy (hT _ I1.bF) (I1.bF _ _ lk) hns hni (I1.bF _ _ lI) cI (by show us.length<=_;rw[l1];decide) λh' e mk=>?_);obtain⟨hn,I2⟩:=Znh I1 mk;obtain rfl:vs=[.int i]:=by obtain⟨v,ws,rfl,rv,iG⟩:=Zo.cons_inv r1;obtain rfl:=Zo.nil_inv iG;obtain rfl:v= .int i:=rv;rfl
   have r2:Vals (V.ref e::[V.int i]) (Value.ref e::us):=.cons rfl r;have hsp:JK C (nm f) (V.ref e::[V.int i]) (upd H1 e (bM e C Yi)) (λv H2=>v= .non/\∃dx od,H1 dx=Yi/\dx≠e/\H2=upd (upd (upd H1 e (bM e C Yi)) e (bM e C (Ya dx))) dx (.bA od (.xd [(nm f,.int i)]))) E0:=
    ⟨e,i,rfl,hi,cU,λdx od hd=>by
     have hde:dx≠e:=by rintro rfl;rw[cU]at hd;cases hd
     rw[Zk hde]at hd;exact⟨rfl,dx,od,hd,hde,rfl⟩⟩
   have hl:(Value.ref e::us++[]).length=ps.length:=by have z:=r2.length;rw[G.len _ _ _ _ hsp]at z;rw[gW];exact z.symm
   have hb':=bi _ (Value.ref e::us) I2.bF hl;rw[gW]at hb';refine p6 (sI (G.run _ X.stack _ _ ⟨Value.ref e::us,[]⟩ (Value.ref e::us) _ _ E0 (hr.make C us []) (I2.env0.make C us []) hb' r2 hsp) λr s' hq'=>?_);cases r with
   |error e=>exfalso;obtain⟨_,_,_,_,_,_,_,_,_,_,_,_,_,z⟩:=hq';exact z|ok fl=>
    cases fl with
    |next=>exact dg hq'|brk=>exact dg hq'|cont=>exact dg hq'|ret u=>
     obtain⟨v,H',I3,rv,ev,dx,od,hdx,hde,eH⟩:=I2.after hq';subst ev eH;have h3:(upd (upd (upd H1 e (bM e C Yi)) e (bM e C (Ya dx))) dx (.bA od (.xd [(nm f,.int i)]))) e=Ya (bM e C (Ya dx)):=by rw[Zk (cP hde),cU]
     obtain⟨I4,ul⟩:=ZpM I1 mk.new I3 h3;obtain⟨⟨vs',sl,tv,g1,g2,g3,g4⟩,_⟩:=(show bR X.prog X.w _ s'.heap e (bM e C (Ya dx))from I3.hok e _ h3);refine⟨rv,Yc (fP (yR (Ym ⟨e,Ya dx,vs',sl,rfl,I3.bF _ _ lk,g1,g4,?_⟩)))⟩;rw[ZkD hde]at I4 ul;have L1:Loose H1 dx:=.inl hdx;have S2:Zu X.K (upd H1 dx (.bA od (.xd [(nm f,.int i)]))) ι1 M1:=S1.other L1 (S1.fresh hdx);have hn2:upd H1 dx (.bA od (.xd [(nm f,.int i)])) e=Yi:=by rw[Zk (cP hde)];exact hn
     refine h σ e C _ (ι1++[e]) (λ_=>rfl) (x1.trans (L1.ext.trans (Loose.wI (.inl hn2)))) (S2.new hn2 (.inr ⟨C,Ya dx,cU,rfl,aZ,.inr ⟨dx,od,[(nm f,.int i)],rfl,?_,rfl,?_⟩⟩)) (Rep.ref (by rw[←S2.len];simp)) aZ pins _ I4 ul
     .rw[Zk hde,cU]
     .exact Zo.cons rfl Zo.nil
  .exact h.elim
 .exact h.elim
structure JL(K:Yb)(c:List Nat)(C:Yl)(f:aj):Prop where
 aZ:ClsAt K c C
 ga:Yr K (.ref C) "__getattribute__" =Ya (Ya (.builtin "BaseException.__getattribute__"))
 gt:Yr K (.ref C) "__getattr__" =Ya Yi
 mb:eX K C (.type "BaseException")=Ya true
 cd:(iY K C).map (·.hasDict)=Ya true
 nf:Yr K (.ref C) f=Ya Yi
end
end L3
set_option Elab.async false
set_option linter.all false
set_option maxRecDepth 100000
namespace L3
open PySem PySem.Spec PyProof.Rows L2
structure El(K:Yb)(c:List Nat)(C CL fI:Yl)(f qual:aj)(st:Ydr)(ps:List aj):Prop where
 own:yp K C CL fI f
 aZ:ClsAt K c C
 fn:∃fd,nC K "__init__" qual st fI fd/\Binds K fd ps []
 fc:(K.lookup fI).map (·.cls)=Ya (.type "function")
def Zl9(P:Yz)(w:aD)(K:Yb)(mg:aj->Option Yd)(base:ao)(C fI:Yl)(f:aj)(ps:List aj):Prop:=∃fd,Binds K fd ps []/\dN P w K mg base (jl P w) 1 fI fd ps (JK C f)
theorem Zsu{C:Yl}{f:aj}{e:Yl}{i:Int}{H:Hp}{D:Ends}{N:List aj}(hN:N.length=2)(hi:i.natAbs.log2<1000)(he:H e=Ya (bM e C Yi))(hq:∀dx od,H dx=Yi->D.nx (L2.start N [.ref e,.int i]) (upd (upd H e (bM e C (Ya dx))) dx (.bA od (.xd [(f,.int i)])))):
  NP (NQ (zJ (λxs H Q=>∃e y,xs=[.ref e,.str y]/\H e=Ya (bM e C Yi)/\Q .non H) (zH (tM 0) (zH (λσ H Q=>tM 1 σ H λy H1=>∃i,y= .int i/\i.natAbs.log2<1000/\∀z,Q (.str z) H1) Dl))))
   (λD σ H=>tM 1 σ H λy H1=>tM 0 σ H1 λx H2=>∃e i,x= .ref e/\y= .int i/\H2 e=Ya (bM e C Yi)/\∀dx od,H2 dx=Yi->D.nx σ (upd (upd H2 e (bM e C (Ya dx))) dx (.bA od (.xd [(f,.int i)])))) D (L2.start N [.ref e,.int i]) H:=by
 have h0:(L2.start N [.ref e,.int i])[0]?=Ya (Ya (.ref e)):=rfl;have h1:(L2.start N [.ref e,.int i])[1]?=Ya (Ya (.int i)):=rfl;exact⟨_,h0,_,h1,i,rfl,hi,λz=>⟨e,z,rfl,he,_,h1,_,h0,e,i,rfl,rfl,he,hq⟩⟩
theorem Zj4{X:Cx}{any:Bool}{c f:List Nat}{C CL fI:Yl}{qual fn:aj}{st:Ydr}{ps:List aj}{x:aj}{np cpos pos:aF}{a:Expr}{as:List Expr}{gl:bW}(R:El X.K c C CL fI fn qual st ps)(G:Zl9 X.prog X.w X.K X.mg X.base C fI fn ps)(hr:bZ 2 X.A)(hm:X.mg x=Ya (.ref C))(ha:CA X.gw (a::as) gl)(hf:fn=nm f:=by decide +kernel)(hc:X.calm=true:=by rfl)(hg:Gl X x:=by rfl)(hdb:(x==("__debug__":aj))=false:=by decide)(he:Yk (a::as) X.env=(false,aA a X.env)::Yk as X.env:=by rfl)(hpl:(bI cpos (Yk as X.env)).any (·.1)=false:=by rfl):oZ X any (.Raise (Ya (.Call (.Name x np) (a::as) [] cpos)) Yi pos) (Ek c f gl):=by subst hf;obtain⟨fd,b,G⟩:=G;exact ZjT (CL:=CL) R.own R.aZ R.fc G b hr hm ha hc hg hdb he hpl
section
variable {K:Yb} {c:List Nat} {C CL fI:Yl} {f qual:aj} {st:Ydr} {ps:List aj}
theorem ZnJ{na q:aj}{N:Yl}{bs bm:List Yd}{hdct:Bool}{sn:List aj}{sub:List Yd}{ab:Bool}{col:Option Bool}{dd:Option Yl}{k0 k1 k2 k3 k5:Option Yd}{cd:PySem.ClassData}{oc dV kV doc pm cdv ct:Yd}{od an:Option Yl}{osl:Array (Option Yd)}(aZ:ClsAt K c C)(lk:K.lookup C=Ya (iz na q C N bs bm hdct sn sub ab col dd k0 k1 k2 k3 k5 "ValueError.__new__"))(hN:∀h:ao,K.In h->∃mN,h.Ns N mN/\mN "__init__" =Ya (.ref fI))(hT:∀h:ao,K.In h->OwnTail h PySem.W.n_ bm)(cl:iY K C=Ya cd)(c2:cd.hasDict=true)(c3:cd.mro= .ref C:: .ref CL::PySem.W.n_)(sa:Yr K (.ref C) "__setattr__" =Ya (Ya (.builtin "object.__setattr__")))(nf:Yr K (.ref C) f=Ya Yi)(mo:eX K C (.type "object")=Ya true)(ga:wL K (.ref CL) "__getattribute__" =Ya (Ya (.builtin "type.__getattribute__")))(rd:FJ K CL (.type "type")=true)(fc:FN K (.ref CL) (.type "type") "__init__" =Ya (.val (.builtin "ValueError.__init__")))(l:K.lookup fI=Ya ⟨oc,od,.func (pY "__init__" qual (nq st) (gM st) (Zq st) dV kV doc pm an cdv ct),osl⟩)(ci:BK K cdv qual=true)(kp:uJ K (.ref fI)=true)(ho:oc= .type "function")(b:Binds K (pY "__init__" qual (nq st) (gM st) (Zq st) dV kV doc pm an cdv ct) ps []):El K c C CL fI f qual st ps:=⟨⟨⟨na,q,N,bs,bm,hdct,sn,sub,ab,col,dd,k0,k1,k2,k3,k5,lk,hN,hT⟩,⟨cd,cl,c2,c3⟩,sa,nf,mo,ga,rd,fc⟩,aZ,⟨_,⟨⟨oc,od,dV,kV,doc,pm,an,cdv,ct,osl,rfl,l,ci⟩,kp⟩,b⟩,by rw[l,ho];rfl⟩
theorem ZgL{cd:PySem.ClassData}(aZ:ClsAt K c C)(ga:Yr K (.ref C) "__getattribute__" =Ya (Ya (.builtin "BaseException.__getattribute__")))(gt:Yr K (.ref C) "__getattr__" =Ya Yi)(mb:eX K C (.type "BaseException")=Ya true)(cl:iY K C=Ya cd)(c2:cd.hasDict=true)(nf:Yr K (.ref C) f=Ya Yi){m:List Nat}(hf:f=nm m:=by decide +kernel):JL K c C (nm m):=by subst hf;exact⟨aZ,ga,gt,mb,by rw[cl,←c2];rfl,nf⟩
end
open PySem
noncomputable section
noncomputable def ZvM(f:E3):qO:=λenv M=>(f env M).bind λa M1=>match a with
 | .ref n=>match M1[n]? with
  |some (.lst ds)=>.ok ⟨ds.reverse,[(n,ds)]⟩ M1|_=>.bad
 |_=>.bad
noncomputable def anyB(l:List D):Option Bool:=if l.all vG then Ya (l.any oN)else Yi
noncomputable def QD(ds:List D)(M:Store):R3 D:=match ds with
 | [.ref n]=>match M[n]? with
  |some (.lst x)=>match anyB x with
   |some b=>.ok (.bl b) M|none=>.bad
  |_=>.bad
 |_=>.bad
@[simp] theorem Av{M:Store}:∀n,QD ([.ref n]) M=(match M[n]? with
  |some (.lst x)=>match anyB x with
   |some b=>.ok (.bl b) M|none=>.bad
  |_=>.bad):=λ_=>rfl
end
end L3
namespace L3
open PySem PySem.Spec PyProof.Rows L2
set_option maxRecDepth 100000
theorem Zq9:fQ "any" =Ya (.builtin "any"):=by decide +kernel
theorem ZgA{α:Type}{z:List α}{p:α->Bool}{tr:Nat->Bool}(h:∀j d,z[j]?=Ya d->tr j=p d):(jx z.length).any tr=z.any p:=by
 rw[G4,U_,U_];constructor
 .rintro⟨j,hj,e⟩;have hl:j<z.length:=GC.mp hj;exact⟨z[j],sY hl,by rw[←h j z[j] (by simp[hl])];exact e⟩
 .rintro⟨d,hd,e⟩;obtain⟨j,hj,rfl⟩:=List.mem_iff_getElem.mp hd;exact⟨j,GC.mpr hj,by rw[h j z[j] (by simp[hj])];exact e⟩
section
variable {X:Cx}
theorem ZsU(hc:X.calm=true):cj X (.builtin "any") (rB X.K QD):=by
 intro pins s σ H xs us Q I rs h;obtain⟨ι,M,ds,S,rd,h⟩:=h;cases ds with
 |nil=>exact h.elim|cons d ds=>
  cases ds with
  |cons _ _=>cases d<;>exact h.elim|nil=>
   obtain⟨x,rfl,r⟩:=v6 rd;obtain⟨u,rfl,ru⟩:=vals1 rs;cases d with
   | ref n=>
    cases hn:M[n]? with
    |none=>rw[Av,hn]at h;exact h.elim|some o=>
     cases o with
     |dct _=>rw[Av,hn]at h;exact h.elim|cO _=>rw[Av,hn]at h;exact h.elim|ins _ _=>rw[Av,hn]at h;exact h.elim|lst z=>
      simp only[Av,hn]at h;cases q:anyB z with
      |none=>rw[q]at h;exact h.elim|some b=>
       rw[q]at h;obtain⟨a,ha,rfl⟩:=r.dZ;cases ru;obtain⟨vs,ev,rv⟩:=S.obj n _ a hn ha;obtain⟨its,rr,pl,_⟩:=I.list (bK.of ev);have hz:z.all vG=true/\z.any oN=b:=by
        unfold anyB at q;split at q
        .rename_i hz;exact⟨hz,Y3 q⟩
        .cases q
       have hlen:its.toArray.size=z.length:=by rw[Yo,←rr.length,rv.length]
       have Qk:X.A.in1.handled=Yi:=I.ok.hd hc;refine call_any_walk (wO pl.isList ⟨s.heap.objs.size,_,_,_,_,_,(λj=>match z[j]? with|some d=>oN d|none=>false),rfl,Walks.list Qk s.heap.objs.size a (dM (I.hok.lt ev)) its.toArray,⟨⟨_,Yu _ rfl,rfl,rfl⟩,pl.isList.at λo e=>Yh _ e⟩,?_,?_⟩)
       .intro j v s' Q' E' hv hq;have hv':its[j]?=Ya v:=by simpa using hv
        have hj:j<z.length:=by have:=(Yj.mp hv').1;rw[←Yo,hlen]at this;exact this
        have e1:z[j]?=Ya z[j]:=by simp[hj]
        have hb:=jT.mp hz.1 _ (sY hj);obtain⟨w,g1,g2⟩:=rv.get e1;obtain⟨u',k1,k2⟩:=rr.get g1;rw[hv']at k1;cases k1;have hq':Q' (oN z[j]) s':=by have:=hq;simp only[e1]at this;exact this
        generalize z[j]=dj at hb g2 hq';cases dj with
        |bl c=>have:=g2.fO;subst this;cases k2;exact BP hq'|_=>simp[vG]at hb
       .intro h' tk kk;rw[hlen,ZgA (p:=oN) (λj d hd=>by rw[hd]),hz.2];exact⟨.bl b,H,I.kept (λc o e=>kk c o (by simp;exact dM (Yv e)) (Yh _ e)),rfl,Zr.ok h S Rep.bl⟩
   |_=>exact h.elim
end
open PySem
noncomputable section
local instance (priority:=100000) Ahy (p:Prop):Decidable p:=Yp p
noncomputable def yr(a b:aj)(f:E3):E3:=λenv M=>(f env M).bind λd M1=>match d with
 | .int i=>if i.natAbs.log2<1000 then .ok (.str (mZ++a++jd (ql i)++b).cps.toList) M1 else .bad|_=>.bad
end
end L3
namespace L3
open PySem
noncomputable def iM(c:List Nat)(g:bW):E3:=λenv M=>match g env M with
 | .ok [_] M1=>.ok (.ref M1.length) (M1++[.ins (0::c) []])|_=>.bad
end L3
namespace L3
open PySem
noncomputable section
noncomputable def Em(c f:List Nat)(P:D->Bool)(g:bW):E3:=λenv M=>match g env M with
 | .ok [d] M1=>if P d then .ok (.ref M1.length) (M1++[.ins (0::c) [(f,d)]])else .bad|_=>.bad
noncomputable def JM(z:List Nat)(j:Int):D->Bool
 | .tup [.str x,.int i]=>decide (x=z)&&decide (i=j)|_=>false
noncomputable def En(c f:List Nat)(a:D)(M:Store):R3 D:=match a with
 | .ref n=>match M[n]? with
  |some (.ins c' fs)=>if c'=0::c then(match fs with
   |[(g,d)]=>if g=f then .ok d M else .bad|_=>.bad)else .bad
  |_=>.bad
 |_=>.bad
end
end L3
namespace L3
open PySem PySem.Spec PyProof.Rows L2
set_option maxRecDepth 100000
section
variable {X:Cx} {value:Expr} {p1 p2 p3 pos:aF} {tv:TE} {f:E3}
theorem Zm8{ca cb:aj}{q9 yq}(hv:PE X value tv)(hl:ca.length+cb.length<=100:=by decide +kernel):
  PE X (.JoinedStr [.Constant (.str ca) q9 p1,.FormattedValue value (-1) Yi p2,.Constant (.str cb) yq p3] pos) (λσ H Q=>tv σ H λy H1=>∃i,y= .int i/\i.natAbs.log2<1000/\Q (.str (mZ++ca++jd (ql i)++cb)) H1):=by
 intro pins s σ H Q I h;have z0:(mZ++ca).length<=Y6:=by rw[jr,iy];have:Str.empty.length=0:=rfl;omega
 refine Lb ?_;show Y1 _ _ (aA (.Constant (.str ca) q9 p1) X.env) _ _ s;refine aC (zE pins s σ H (λv H'=>v= .str ca/\H'=H) I ⟨rfl,rfl⟩) λu s1 z=>?_;obtain⟨v,H1,I1,r1,e1,e2⟩:=z;subst e1 e2;obtain⟨t1,rfl⟩:=r1;refine⟨ca,t1,rfl,z0,?_⟩;show Y1 _ _ (aA (.FormattedValue value (-1) Yi p2) X.env) _ _ s1;refine T8 (aC (hv pins s1 σ _ _ I1 h) λu2 s2 z=>?_);obtain⟨y,H2,I2,r2,i,e1,hi,hq⟩:=z;subst e1;obtain⟨t2,rfl⟩:=r2;have zi:=Zjl hi;have z1:(mZ++ca++jd (ql i)).length<=Y6:=by rw[jr,jr,iy];have:Str.empty.length=0:=rfl;omega
 have z2:(mZ++ca++jd (ql i)++cb).length<=Y6:=by rw[jr,jr,jr,iy];have:Str.empty.length=0:=rfl;omega
 refine Ub (tE hi (by decide)) ⟨_,_,rfl,z1,?_⟩;show Y1 _ _ (aA (.Constant (.str cb) yq p3) X.env) _ _ _;refine aC (zE pins _ σ H2 (λv H'=>v= .str cb/\H'=H2) (I2.tok _) ⟨rfl,rfl⟩) λu3 s3 z=>?_;obtain⟨v,H3,I3,r3,e1,e2⟩:=z;subst e1 e2;obtain⟨t3,rfl⟩:=r3;exact⟨cb,t3,rfl,z2,z2,⟨.str _,_,I3.tok _,⟨_,rfl⟩,hq⟩⟩
theorem Zrp{ca cb:aj}{q9 yq}(h:C3 X value f)(hl:ca.length+cb.length<=100:=by decide +kernel):C3 X (.JoinedStr [.Constant (.str ca) q9 p1,.FormattedValue value (-1) Yi p2,.Constant (.str cb) yq p3] pos) (yr ca cb f):=
 (Zm8 h hl).imp λσ H Q z=>by
  obtain⟨ι,M,env,S,E,h⟩:=z;obtain⟨d,M1,e1,h⟩:=Zr.bind h;refine⟨ι,M,env,S,E,?_⟩;rw[e1];intro v H1 ι1 x1 S1 r;cases d with
  | int i=>
   obtain rfl:=r.int_inv;simp only at h;split at h
   .rename_i hi;exact⟨i,rfl,hi,h _ H1 ι1 x1 S1 Rep.str⟩
   .exact h.elim
  |_=>exact h.elim
end
set_option maxRecDepth 100000
variable{as:List Expr}{c:List Nat}{C:Yl}
theorem Aw{X:Cx}{x:aj}{np cpos:aF}{a:Expr}{gl:bW}(O:v8 X.K c C)(hm:X.mg x=Ya (.ref C))(ha:CA X.gw (a::as) gl)(hg:Gl X x:=by rfl)(hdb:(x==("__debug__":aj))=false:=by decide)(he:Yk (a::as) X.env=(false,aA a X.env)::Yk as X.env:=by rfl)(hpl:(bI cpos (Yk as X.env)).any (·.1)=false:=by rfl):C3 X (.Call (.Name x np) (a::as) [] cpos) (iM c gl):=by
 obtain⟨aZ,na,q,N,bs,bm,hdct,sn,sub,ab,col,dd,k0,k1,k2,k3,k5,lk,hN,hT⟩:=O;intro pins s σ H Q I z;obtain⟨ι,M,env,S,E,h⟩:=z;unfold iM at h;split at h
 .rename_i d M1 qg;have hplain:(bI cpos (Yk (a::as) X.env)).any (·.1)=false:=by rw[he];show(false|| (bI cpos (Yk as X.env)).any (·.1))=false;rw[hpl];rfl
  refine K_ (qw I hg hm ?_ hdb);unfold yU;refine Yc (fP ?_);have key:=Ef (pos:=cpos) (R:=λus s2=>∃vs H1 ι1,Inv X pins σ H1 s2/\Vals vs us/\Ext X.K H ι H1 ι1/\Zu X.K H1 ι1 M1/\Zo X.K H1 ι1 [d] vs) ha I S E qg (λus s1 vs H1 ι1 I1 r x1 S1 r1=>⟨vs,H1,ι1,I1,r,x1,S1,r1⟩);rw[hplain];rw[he]at key ⊢;refine zr (dw key (λus s2 zz=>?_) λ_ _ y=>y);obtain⟨vs,H1,ι1,I1,r,x1,S1,r1⟩:=zz;obtain⟨hp,g,dr,tk,os⟩:=s2;refine Yc (pZ ?_);refine Yc (K8 (I1.bF _ _ lk) ?_);obtain⟨mN,hns,hni⟩:=hN _ I1.bF;have l1:us.length=1:=by rw[←r.length,r1.length];rfl
  refine Yc (wpAny_call_exc_subU zj (bmB:=Jy) (by decide) zj (hT _ I1.bF) (I1.bF _ _ lk) hns hni (λh' e mk=>?_) (by show us.length<=_;rw[l1];decide));obtain⟨hn,I2,ul⟩:=Zkq I1 mk;refine Yc (fP (yR (Ym ?_)));exact⟨.ref e,_,I2,rfl,h _ _ (ι1++[e]) (x1.trans (Loose.wI (.inl hn))) (S1.new hn (.inr ⟨C,Yi,cU,rfl,aZ,.inl rfl⟩)) (Rep.ref (by rw[←S1.len];simp))⟩
 .exact h.elim
set_option maxRecDepth 100000
section
variable {X:Cx} {o value:Expr} {f:aj} {p1 p2 pos pos':aF} {C CL fI:Yl} {ta tv:TE}
theorem Zpm(O:yp X.K C CL fI f)(ha:PE X o ta)(hv:PE X value tv)(hs:sJ value (Ya (.Attribute o f pos')) pos.line X.env=pure false:=by rfl):
  PS X (.Assign [.Attribute o f pos'] value pos) (λD σ H=>tv σ H λy H1=>ta σ H1 λx H2=>∃e,x= .ref e/\H2 e=Ya (bM e C Yi)/\∀dx od,H2 dx=Yi->D.nx σ (upd (upd H2 e (bM e C (Ya dx))) dx (.bA od (.xd [(f,y)])))):=by
 intro pins s σ H D I h;refine T7 (aC (hv pins s σ H _ I h) λu s1 z=>?_) hs;obtain⟨y,H1,I1,ry,q⟩:=z;refine aC (ha pins s1 σ H1 _ I1 q) λov s2 z=>?_;obtain⟨x,H2,I2,rx,e,ex,he,q2⟩:=z;subst ex;obtain rfl:ov=Value.ref e:=rx;obtain⟨cd,c1,c2,c3⟩:=O.cls;obtain⟨⟨vs,sl,tv,h1,h2,h3,h4⟩,_⟩:=(show bR X.prog X.w H2 s2.heap e (bM e C Yi)from I2.hok e _ he);refine PySem.W.S_ I2.bF h1 rfl rfl rfl c1 c2 c3 O.sa O.nf O.mo λh' tk' g1 g2 k1=>?_;have hdx:s2.heap.get? s2.heap.objs.size=Yi:=Cd (Yq _);obtain⟨od,es,ep,e1,e2,e3,e4,e5⟩:=id g2;refine⟨σ,_,ZiO (φ':=Ar e C (Ya s2.heap.objs.size)) (o2:=.bA od (.xd [(f,y)])) I2 he hdx k1 (λH'=>JG ⟨vs,sl,tv,g1,h2,h3,h4⟩) (λH'=>⟨e1,_,g2,λn=>?_⟩),q2 _ od (JH I2 hdx)⟩;by_cases hn:n=f
 .rw[hn,if_pos rfl,gH,beq_self_eq_true];exact ry
 .rw[if_neg hn,gH,beq_eq_false_iff_ne.mpr hn];exact trivial
theorem Zmx{ca x:aj}{i:Int}{q9}(hv:PE X value tv)(hg:X.A.guards=Ya [])(hu:X.A.units+80<fV)(hl:ca.length<=100)(hs:(PyData.tuple [.str x,.int i]).showable=true)(hz:(PyData.tuple [.str x,.int i]).shown.length<=100):
  PE X (.JoinedStr [.Constant (.str ca) q9 p1,.FormattedValue value 114 Yi p2] pos) (λσ H Q=>tv σ H λy H1=>(∃b,y= .ref b/\bY X.K H1 b [.str x,.int i])/\∀z,Q (.str z) H1):=by
 intro pins s σ H Q I h;have zl:Str.empty.length=0:=rfl;have z0:(mZ++ca).length<=Y6:=by rw[jr,iy];omega
 refine Lb ?_;show Y1 _ _ (aA (.Constant (.str ca) q9 p1) X.env) _ _ s;refine aC (zE pins s σ H (λv H'=>v= .str ca/\H'=H) I ⟨rfl,rfl⟩) λu s1 z=>?_;obtain⟨v,H1,I1,r1,e1,e2⟩:=z;subst e1 e2;obtain⟨t1,rfl⟩:=r1;refine⟨ca,t1,rfl,z0,?_⟩;show Y1 _ _ (aA (.FormattedValue value 114 Yi p2) X.env) _ _ s1;refine wpAny_FormattedValue_repr (aC (hv pins s1 σ _ _ I1 h) λu2 s2 z=>?_);obtain⟨y,H2,I2,r2,⟨b,e1,hb⟩,hq⟩:=z;subst e1;obtain rfl:u2=Value.ref b:=r2;obtain⟨its,rv,p,_⟩:=I2.tuple hb;obtain⟨w1,w2,rfl,⟨ta',rfl⟩,⟨tb',rfl⟩⟩:=rv.two;obtain⟨ob,ho,hc,nn,hd⟩:=p;have rd:Reads s2.heap (.ref b) (.tuple [.str x,.int i]) ([]++([]++[])):=.tuple ho hc hd (.cons (.str x ta') (.cons (.int i tb') .nil));have z1:(mZ++ca++(PyData.tuple [.str x,.int i]).shown).length<=Y6:=by rw[jr,jr,iy];omega
 have zs:(PyData.tuple [.str x,.int i]).shown.length<=Y6:=by rw[iy];omega
 refine pyReprObj_of_reads rd hs (λz=>nomatch z) hg (GJ (Nat.add_le_add_left (show(PyData.tuple [.str x,.int i]).depth<=80 by simp[PyData.depth,PyData.depthAll]) _) hu) (λ_ _ e=>e) (λh' u tk hk=>?_) zs;have I3:Inv X pins σ H2 {s2 with heap:=h',toks:=tk}:=I2.kept hk;refine wpAny_formatField_str (s:={s2 with heap:=h',toks:=tk}) ⟨_,_,rfl,z1,?_⟩ ⟨_,_,rfl,z1,?_⟩ zs
 .exact⟨z1,⟨.str _,_,I3.tok _,⟨_,rfl⟩,hq _⟩⟩
 .exact⟨z1,⟨.str _,_,(I3.tok _).tok _,⟨_,rfl⟩,hq _⟩⟩
end
set_option maxRecDepth 100000
theorem Zpl{v:V}{u:Yd}(h:RelV v u):PySem.W.handedIn u=true:=by cases v<;>first|(obtain⟨t,rfl⟩:=h;rfl)|(obtain rfl:=h;rfl)
noncomputable def JN(C:Yl)(f:aj)(ok:V->Hp->Prop):Sp:=λvs H Q _=>∃e y,vs=[.ref e,y]/\ok y H/\H e=Ya (bM e C Yi)/\∀dx od,H dx=Yi->Q .non (upd (upd H e (bM e C (Ya dx))) dx (.bA od (.xd [(f,y)])))
variable{ps:List aj}
section
variable {P:Yz} {w:aD} {K:Yb} {mg:aj->Option Yd} {base:ao}
theorem fnV{ok:V->Hp->Prop}{k:Nat}{fI:Yl}{f x qual:aj}{st:Ydr}{fd:fC}{N:List aj}(F:nC K x qual st fI fd)(S:dY N ps (Zq st))(hl:ps.length=2)(hb:∀(cdv:Yd) (A:aU) (outer:List b7) (s:Yg) (H:Hp) (E:XK),bZ k (A.deeper (jz qual (Zq st) s.heap.objs.size fI cdv))->∃t,gJ (lQ (jl P w) P w K mg base N qual (Zq st) fI cdv A outer s H E) (gM st) t/\
   ∀D e y,ok y H->H e=Ya (bM e C Yi)->(∀dx od,H dx=Yi->D.nx (L2.start N [.ref e,y]) (upd (upd H e (bM e C (Ya dx))) dx (.bA od (.xd [(f,y)]))))->t D (L2.start N [.ref e,y]) H):
  dN P w K mg base (jl P w) (k+1) fI fd ps (JN C f ok):=by
 obtain⟨oc,od,dV,kV,doc,pm,an,cdv,ct,osl,rfl,lk,hcd⟩:=F.ex;refine Ie lk hcd S (λvs H Q E ⟨e,y,r,_⟩=>by rw[r,hl];rfl) λA outer s H vs Q E hr ak=>?_;obtain⟨e,y,rfl,hi,he,hq⟩:=ak;obtain⟨t,ht,q⟩:=hb cdv A outer s H E hr;exact⟨t,ht,q _ e y hi he hq⟩
end
section
variable {X:Cx}
theorem Zs4{f:List Nat}{CL fI:Yl}{k:Nat}{fd:fC}{x:aj}{np cpos:aF}{a:Expr}{gl:bW}{P:D->Bool}{ok:V->Hp->Prop}(O:yp X.K C CL fI (nm f))(aZ:ClsAt X.K c C)(hfn:(X.K.lookup fI).map (·.cls)=Ya (.type "function"))(G:dN X.prog X.w X.K X.mg X.base (jl X.prog X.w) k fI fd ps (JN C (nm f) ok))(bi:Binds X.K fd ps [])(hok:∀d v H ι,P d=true->Rep X.K H ι d v->∀e u,H e=Yi->ok v (upd H e u))(hr:bZ (k+1) X.A)(hm:X.mg x=Ya (.ref C))(ha:CA X.gw (a::as) gl)(hg:Gl X x:=by rfl)(hdb:(x==("__debug__":aj))=false:=by decide)(he:Yk (a::as) X.env=(false,aA a X.env)::Yk as X.env:=by rfl)(hpl:(bI cpos (Yk as X.env)).any (·.1)=false:=by rfl):C3 X (.Call (.Name x np) (a::as) [] cpos) (Em c f P gl):=by
 obtain⟨na,q,N,bs,bm,hdct,sn,sub,ab,col,dd,k0,k1,k2,k3,k5,lk,hN,hT⟩:=O.obj;obtain⟨oI,lI,cI⟩:∃oI,X.K.lookup fI=Ya oI/\oI.cls= .type "function":=by
  cases z:X.K.lookup fI with
  |none=>rw[z]at hfn;cases hfn|some oI=>rw[z]at hfn;exact⟨oI,rfl,Y3 hfn⟩
 intro pins s σ H Q I z;obtain⟨ι,M,env,S,E,h⟩:=z;unfold Em at h;split at h
 .rename_i dv M1 qg;split at h
  .rename_i hi;have hplain:(bI cpos (Yk (a::as) X.env)).any (·.1)=false:=by rw[he];show(false|| (bI cpos (Yk as X.env)).any (·.1))=false;rw[hpl];rfl
   refine K_ (qw I hg hm ?_ hdb);unfold yU;refine Yc (fP ?_);have key:=Ef (pos:=cpos) (R:=λus s2=>∃vs H1 ι1,Inv X pins σ H1 s2/\Vals vs us/\Ext X.K H ι H1 ι1/\Zu X.K H1 ι1 M1/\Zo X.K H1 ι1 [dv] vs) ha I S E qg (λus s1 vs H1 ι1 I1 r x1 S1 r1=>⟨vs,H1,ι1,I1,r,x1,S1,r1⟩);rw[hplain];rw[he]at key ⊢;refine zr (dw key (λus s2 zz=>?_) λ_ _ y=>y);obtain⟨vs,H1,ι1,I1,r,x1,S1,r1⟩:=zz;obtain⟨hp,g,d,tk,os⟩:=s2;refine Yc (pZ ?_);refine Yc (K8 (I1.bF _ _ lk) ?_);obtain⟨mN,hns,hni⟩:=hN _ I1.bF;have l1:us.length=1:=by rw[←r.length,r1.length];rfl
   refine Yc (PySem.W.Sy (hT _ I1.bF) (I1.bF _ _ lk) hns hni (I1.bF _ _ lI) cI (by show us.length<=_;rw[l1];decide) λh' e mk=>?_);obtain⟨hn,I2⟩:=Znh I1 mk;obtain⟨y,ws,rfl,ry,iG⟩:=Zo.cons_inv r1;obtain rfl:=Zo.nil_inv iG;have r2:Vals (V.ref e::[y]) (Value.ref e::us):=.cons rfl r;have hsp:JN C (nm f) ok (V.ref e::[y]) (upd H1 e (bM e C Yi)) (λv H2=>v= .non/\∃dx od,H1 dx=Yi/\dx≠e/\H2=upd (upd (upd H1 e (bM e C Yi)) e (bM e C (Ya dx))) dx (.bA od (.xd [(nm f,y)]))) E0:=
    ⟨e,y,rfl,hok dv y H1 ι1 hi ry e _ hn,cU,λdx od hd=>by
     have hde:dx≠e:=by rintro rfl;rw[cU]at hd;cases hd
     rw[Zk hde]at hd;exact⟨rfl,dx,od,hd,hde,rfl⟩⟩
   have hl:(Value.ref e::us++[]).length=ps.length:=by have z:=r2.length;rw[G.len _ _ _ _ hsp]at z;rw[gW];exact z.symm
   have hb':=bi _ (Value.ref e::us) I2.bF hl;rw[gW]at hb';refine p6 (sI (G.run _ X.stack _ _ ⟨Value.ref e::us,[]⟩ (Value.ref e::us) _ _ E0 (hr.make C us []) (I2.env0.make C us []) hb' r2 hsp) λr s' hq'=>?_);cases r with
   |error e=>obtain⟨_,_,_,_,_,_,_,_,_,_,_,_,_,z⟩:=hq';exact z.elim|ok fl=>
    cases fl with
    |next=>exact dg hq'|brk=>exact dg hq'|cont=>exact dg hq'|ret u=>
     obtain⟨v,H',I3,rv,ev,dx,od,hdx,hde,eH⟩:=I2.after hq';subst ev eH;have h3:(upd (upd (upd H1 e (bM e C Yi)) e (bM e C (Ya dx))) dx (.bA od (.xd [(nm f,y)]))) e=Ya (bM e C (Ya dx)):=by rw[Zk (cP hde),cU]
     obtain⟨I4,ul⟩:=ZpM I1 mk.new I3 h3;refine⟨rv,Yc (fP (yR (Ym ?_)))⟩;rw[ZkD hde]at I4 ul;have L1:Loose H1 dx:=.inl hdx;have S2:Zu X.K (upd H1 dx (.bA od (.xd [(nm f,y)]))) ι1 M1:=S1.other L1 (S1.fresh hdx);have hn2:upd H1 dx (.bA od (.xd [(nm f,y)])) e=Yi:=by rw[Zk (cP hde)];exact hn
     have x2:Ext X.K H1 ι1 (upd (upd H1 dx (.bA od (.xd [(nm f,y)]))) e (jH e C (Ya dx))) (ι1++[e]):=L1.ext.trans (Loose.wI (.inl hn2));refine⟨.ref e,_,I4,rfl,h _ _ (ι1++[e]) (x1.trans x2) (S2.new hn2 (.inr ⟨C,Ya dx,cU,rfl,aZ,.inr ⟨dx,od,[(nm f,y)],rfl,?_,rfl,?_⟩⟩)) (Rep.ref (by rw[←S2.len];simp))⟩
     .rw[Zk hde,cU]
     .exact Zo.cons (ry.mono x2) Zo.nil
  .exact h.elim
 .exact h.elim
theorem Zq6{m:List Nat}{e:Expr}{f:E3}{fn:aj}{pos:aF}(G:JL X.K c C (nm m))(he:C3 X e f)(hf:fn=nm m:=by decide +kernel)(hb:sH e fn X.env (aA e X.env)=aA e X.env:=by rfl):C3 X (.Attribute e fn pos) (e1 (En c m) f):=by
 subst hf;intro pins s σ H Q I h;obtain⟨ι,M,env,S,E,h⟩:=h;obtain⟨d,M1,e1,hh⟩:=Zr.bind h;refine Zo9 hb (aC (he pins s σ H (λv H1=>∃ι1,Ext X.K H ι H1 ι1/\Zu X.K H1 ι1 M1/\Rep X.K H1 ι1 d v) I ⟨ι,M,env,S,E,by rw[e1];exactλv H1 ι1 x1 S1 r1=>⟨ι1,x1,S1,r1⟩⟩) λu s1 z=>?_);obtain⟨v,H1,I1,rv,ι1,x1,S1,r1⟩:=z;unfold En at hh;split at hh
 .rename_i n;split at hh
  .rename_i c' fs hn;split at hh
   .rename_i ec;subst ec;split at hh
    .rename_i g dv;split at hh
     .rename_i eg;subst eg;obtain⟨a,ha,rfl⟩:=r1.dZ;obtain rfl:u=Value.ref a:=rv;rcases S1.obj n _ a hn ha with⟨_,_,_,_,⟨_,z⟩,_⟩|⟨C',dd,q,_,ca,z⟩
      .exact absurd rfl z
      obtain rfl:C'=C:=by have z1:=ca.symm.trans G.aZ;injection z1 with z1;injection z1 with z1;injection z1
      rcases z with z|⟨dx,od,gs,rfl,hdx,JP,fr2⟩
      .cases z
      obtain⟨⟨o,vs,h1,h2,h3,h4⟩,_⟩:=(show bR X.prog X.w H1 s1.heap a (jH a C' (Ya dx))from I1.hok a _ q);obtain⟨_,mA,hns,hm⟩:=(show bR X.prog X.w H1 s1.heap dx (.bA od (.xd gs))from I1.hok dx _ hdx);obtain⟨cd,c1,c2⟩:∃cd,iY X.K C'=Ya cd/\cd.hasDict=true:=by
       cases z:iY X.K C' with
       |none=>have:=G.cd;rw[z]at this;cases this|some cd=>have:=G.cd;rw[z]at this;exact⟨cd,rfl,Y3 this⟩
      obtain⟨v,ws,e2,r3,r4⟩:=Zo.cons_inv fr2;obtain rfl:=Zo.nil_inv r4;have lg:gs.lookup (nm g)=Ya v:=by
       match gs,JP,e2 with
       |[(a,b)],JP,e2=>simp at JP e2;subst JP e2;rw[gH,beq_self_eq_true]
      have hm:=hm (nm g);rw[lg]at hm;cases hv:mA (nm g)with
      |none=>rw[hv]at hm;exact hm.elim|some uv=>rw[hv]at hm;have hm:RelV v uv:=hm;exact PySem.W.AgK G.ga G.gt G.mb I1.bF ⟨o,h1,h2⟩ (PySem.W.Agv I1.bF h1 h2 h3 h4 hns hv c1 c2 G.nf) (Zpl hm) ⟨v,H1,I1.tok _,hm,hh _ _ ι1 x1 S1 r3⟩
     .exact hh.elim
    .exact hh.elim
   .exact hh.elim
  .exact hh.elim
 .exact hh.elim
end
set_option maxRecDepth 100000
noncomputable def JQ(K:Yb)(x:aj)(i:Int):V->Hp->Prop:=λy H=>∃b,y= .ref b/\bY K H b [.str x,.int i]
def Zk1(P:Yz)(w:aD)(K:Yb)(mg:aj->Option Yd)(base:ao)(C fI:Yl)(f:aj)(ps:List aj)(ok:V->Hp->Prop):Prop:=∃fd,Binds K fd ps []/\dN P w K mg base (jl P w) 1 fI fd ps (JN C f ok)
theorem Zs7{K:Yb}{x:aj}{i:Int}{f:aj}{e:Yl}{y:V}{H:Hp}{D:Ends}{N:List aj}(hN:N.length=2)(hi:JQ K x i y H)(he:H e=Ya (bM e C Yi))(hq:∀dx od,H dx=Yi->D.nx (L2.start N [.ref e,y]) (upd (upd H e (bM e C (Ya dx))) dx (.bA od (.xd [(f,y)])))):
  NP (NQ (zJ (λxs H Q=>∃e y,xs=[.ref e,.str y]/\H e=Ya (bM e C Yi)/\Q .non H) (zH (tM 0) (zH (λσ H Q=>tM 1 σ H λy H1=>(∃b,y= .ref b/\bY K H1 b [.str x,.int i])/\∀z,Q (.str z) H1) Dl))))
   (λD σ H=>tM 1 σ H λy H1=>tM 0 σ H1 λx H2=>∃e,x= .ref e/\H2 e=Ya (bM e C Yi)/\∀dx od,H2 dx=Yi->D.nx σ (upd (upd H2 e (bM e C (Ya dx))) dx (.bA od (.xd [(f,y)])))) D (L2.start N [.ref e,y]) H:=by
 have h0:(L2.start N [.ref e,y])[0]?=Ya (Ya (.ref e)):=rfl;have h1:(L2.start N [.ref e,y])[1]?=Ya (Ya y):=rfl;exact⟨_,h0,_,h1,hi,λz=>⟨e,z,rfl,he,_,h1,_,h0,e,rfl,he,hq⟩⟩
theorem Zsk{X:Cx}{f:List Nat}{CL fI:Yl}{qual fn:aj}{st:Ydr}{x:aj}{np cpos:aF}{a:Expr}{gl:bW}{P:D->Bool}{ok:V->Hp->Prop}(R:El X.K c C CL fI fn qual st ps)(G:Zk1 X.prog X.w X.K X.mg X.base C fI fn ps ok)(hok:∀d v H ι,P d=true->Rep X.K H ι d v->∀e u,H e=Yi->ok v (upd H e u))(hr:bZ 2 X.A)(hm:X.mg x=Ya (.ref C))(ha:CA X.gw (a::as) gl)(hf:fn=nm f:=by decide +kernel)(hg:Gl X x:=by rfl)(hdb:(x==("__debug__":aj))=false:=by decide)(he:Yk (a::as) X.env=(false,aA a X.env)::Yk as X.env:=by rfl)(hpl:(bI cpos (Yk as X.env)).any (·.1)=false:=by rfl):C3 X (.Call (.Name x np) (a::as) [] cpos) (Em c f P gl):=by subst hf;obtain⟨fd,b,G⟩:=G;exact Zs4 (CL:=CL) R.own R.aZ R.fc G b hok hr hm ha hg hdb he hpl
theorem ZtG{K:Yb}{z:List Nat}{j:Int}(d:D)(v:V)(H:Hp)(ι:List Yl)(h:JM z j d=true)(r:Rep K H ι d v)(e:Yl)(u:HO)(hn:H e=Yi):JQ K ⟨z.toArray⟩ j v (upd H e u):=by
 unfold JM at h;split at h
 .rename_i x i;rw[gq,decide_eq_true_eq,decide_eq_true_eq]at h;obtain⟨rfl,rfl⟩:=h;obtain⟨b,vs,rfl,s,rl⟩:=r.gF;obtain⟨v1,ws,rfl,r1,rl⟩:=Zo.cons_inv rl;obtain⟨v2,ws,rfl,r2,rl⟩:=Zo.cons_inv rl;obtain rfl:=Zo.nil_inv rl;obtain rfl:v1= .str ⟨x.toArray⟩:=r1;obtain rfl:v2= .int i:=r2;exact⟨b,rfl,(Loose.ext (ι:=ι) (.inl hn)).tup _ _ s⟩
 .cases h
open PySem PySem.W PyProof.Rows PySem.Calls
variable{X:Yg->Bool}{w:aD}{L:List aj}{ann:Option Yd}{p:Yz}
theorem Zom{q:Yz}{α:Type}{Y:Yg->α}{a:α}{N:Nat}{g0:Bool}{H:ao}{gs:Array GenState}{d:Drawn}{k m M:Nat}(ho:(fencedOpening k_ p w N).map (λs=>(s.heap,s.gens,s.drawn,s.toks))=Ya (H,gs,d,k))(hz:(H.isNs Y2&&gs.size==0,H.objs.size,H.nsMap Y2 "__annotations__")=(true,m,ann))(hr:∀os,∃s,topRun k_ p w m ann M ⟨H,gs,d,k,os⟩ (topStub p)=Ya s/\(staticsOk (yP p.main.body) H s.heap&&namesBound p s.heap&&gensDone s&&laidKept H s.heap)=true/\openSeen q L (yP p.main.body) X g0 s=openGood q L/\Y s=a)(hl:iD M N=true):(openEnds k_ p w N).map (λs=>(openSeen q L (yP p.main.body) X g0 s,Y s))=Ya (openGood q L,a):=by
 obtain⟨⟨h,gs',d',k',os⟩,e,e'⟩:=Tr.mp ho;obtain⟨rfl,rfl,rfl,rfl⟩:h=H/\gs'=gs/\d'=d/\k'=k:=by cases e';exact⟨rfl,rfl,rfl,rfl⟩
 have z1:=congrArg (·.1) hz;have z2:=congrArg (·.2.1) hz;have z3:=congrArg (·.2.2) hz;dsimp only at z1 z2 z3;obtain⟨s,r,l1,l2,l3⟩:=hr os;have r:=topRun_mono (N-M) _ _ _ _ r;rw[show M+(N-M)=N from Nat.add_sub_cancel' (w5 hl)]at r;have t:topFrom k_ p w N ⟨h,gs',d',k',os⟩=Ya s:=by unfold topFrom;dsimp only;rw[z1,z2,z3,r];show(match staticsOk (yP p.main.body) h s.heap&&namesBound p s.heap&&gensDone s&&laidKept h s.heap with|true=>_|false=>_)=_;rw[l1]
 unfold openEnds;rw[e];show(topFrom k_ p w N _).map _=_;rw[t];exact congrArg Ya (Prod.ext l2 l3)
theorem ZqW{m:Nat}{s:Yg}{c:Code}{pos q:aF}:topRun k_ p w m ann 2 s ⟨doneF .next,c,pos,[topFrame q]⟩=Ya s:=by obtain⟨a,b,d,e,f⟩:=s;rfl
theorem Zqp{m:Nat}{n0 n1 n:Nat}{S Sa:Yg}{T T':SharedT}{b:List Ydr}{env:b7}{q pos pos1 pos2:aF}(ha:topGo k_ p w m ann n0 S (topStub p)=Ya (Sa,⟨denote k_ (.body b env),.body b env,pos,[topFrame q]⟩))(hb:segRun k_ p w m ann 1 n1 Sa (blockOf b env (.body b env) pos [topFrame q])=Ya (.next,T.abs,.body b env,pos1))(hr:segRunT k_ p w m ann 1 n T (piecesOf b env (.body b env) pos1 [topFrame q])=Ya (.next,T',.body b env,pos2)):
  topRun k_ p w m ann (n0+(n1+(n+2))) S (topStub p)=Ya T'.abs:=by
 have h:=piece_app (rest:=[]) (segRun_of hr) (piece_nil ZqW);rw[gW]at h;exact go_top ha (piece_block hb h)
theorem Zrf{A B C D E F:Type}{a a':A}{b b':B}{c c':C}{d d':D}{e e':E}{f f':F}(h:(a,b,c,d,e,f)=(a',b',c',d',e',f')):a=a'/\b=b'/\c=c'/\d=d'/\e=e'/\f=f':=by cases h;exact⟨rfl,rfl,rfl,rfl,rfl,rfl⟩
noncomputable def QF:List aq->List aq
 |a::_::l=>a::QF l|l=>l
noncomputable def QG:Nat->List aq->BT
 |n+1,o::l=>.node o (QG n (QF l)) (QG n (QF l.tail))|_,_=>.nil
noncomputable abbrev hV(p:Yz):b7:={scope:=p.main.scope,locals:=mainNs,globals:=mainNs,cells:=[],code:=.ref 13,frame:=Ya 14}
noncomputable abbrev hO:aF:=⟨0,0,0,0⟩
noncomputable abbrev hK(p:Yz):Code:=.body (behindTheImports p) (hV p)
noncomputable abbrev hF:List Frame:=[topFrame hO]
noncomputable abbrev hS(w:aD)(os:OsState):Yg:=⟨boot_heap w.params,⟨[]⟩,boot_drawn,boot_toks,os⟩
noncomputable def hT(s:Yg):SharedT:=⟨QG 8 s.heap.objs.toList,s.heap.objs.size,s.heap.life,s.gens,s.drawn,s.toks,s.os⟩
noncomputable abbrev hU:=Fast.tw14364793385576792824
noncomputable abbrev hW(w:aD)(b:Bool):aD:=w.withFollow "special-get-raises" b
noncomputable def QH(p:Yz)(w:aD)(os:OsState):=Fast.tw15667345088766844465 hU p w 11 (Ya (.ref 6)) 12 (hS w os) (topStub p)
noncomputable def hSa(p:Yz)(w:aD)(os:OsState):Yg:=match QH p w os with|some x=>x.1|none=>hS w os
noncomputable def QJ(p:Yz)(w:aD)(os:OsState):=Fast.tw14374325043358763698 hU p w 11 (Ya (.ref 6)) 1 1 (hSa p w os) (blockOf (behindTheImports p) (hV p) (hK p) hO hF)
noncomputable def QK(p:Yz)(w:aD)(os:OsState):SharedT:=match QJ p w os with|some x=>hT x.2.1|none=>hT (hS w os)
noncomputable def QL(p:Yz)(n:Nat)(w:aD)(os:OsState):=Fast.tw10110043849684766642 hU p w 11 (Ya (.ref 6)) 1 n (QK p w os) (piecesOf (behindTheImports p) (hV p) (hK p) hO hF)
noncomputable def yt(p:Yz)(n:Nat)(w:aD)(os:OsState):SharedT:=match QL p n w os with|some x=>x.2.1|none=>QK p w os
noncomputable abbrev hSt(p q:Yz)(L:List aj)(X:Yg->Bool)(A:List Yl)(K:Params->Frag)(n:Nat)(z:aF)(w:aD):Prop:=∀os,(QH p w os,QJ p w os,QL p n w os,
  (staticsOk (Fast.tw5923862056798008813 p.main.body) (boot_heap w.params) (yt p n w os).abs.heap&&namesBound p (yt p n w os).abs.heap&&gensDone (yt p n w os).abs&&laidKept (boot_heap w.params) (yt p n w os).abs.heap),
  Fast.tw4187177175401517315 q L (Fast.tw5923862056798008813 p.main.body) X true (yt p n w os).abs,A.map (yt p n w os).abs.heap.get?)=
 (Ya (hSa p w os,⟨Fast.tw11892475500146522536 hU (hK p),hK p,hO,hF⟩),Ya (.next,(QK p w os).abs,hK p,hO),Ya (.next,yt p n w os,hK p,z),true,openGood q L,(K w.params).map λp=>Ya p.2)
theorem Zl8{q:Yz}{A:List Yl}{K:Params->Frag}{n N:Nat}{z:aF}(e:opening p=plainProg p.main.scope.names)(f:∀s,fenceModules? p s=Ya s)(hN:iD 600 N=true)(hl:iD (12+(1+(n+2))) N=true)(h:hSt p q L X A K n z w):
  (openEnds k_ p w N).map (λs=>(openSeen q L (yP p.main.body) X true s,A.map s.heap.get?))=Ya (openGood q L,(K w.params).map λp=>Ya p.2):=by
 refine Zom (boot_open e hN f _) (m:=11) (ann:=Ya (.ref 6)) (M:=12+(1+(n+2))) (by kernel_rfl) (λos=>?_) hl;have h:=h os;unfold QH QJ QL hU at h;rw[←Fast.te15667345088766844465,←Fast.te14374325043358763698,←Fast.te10110043849684766642,←Fast.te14364793385576792824,←Fast.te5923862056798008813,←Fast.te4187177175401517315,←Fast.te11892475500146522536]at h;obtain⟨h1,h2,h3,h4,h5,h6⟩:=Zrf h;exact⟨_,Zqp h1 h2 h3,h4,h5,h6⟩
theorem ZqG{q:Yz}{A:List Yl}{K:Params->Frag}{n N:Nat}{z:aF}(e:opening p=plainProg p.main.scope.names)(f:∀s,fenceModules? p s=Ya s)(hN:iD 600 N=true)(hl:iD (12+(1+(n+2))) N=true)(h0:∀w,hSt p q L X A K n z (hW w false))(h1:∀w,hSt p q L X A K n z (hW w true)):
  LeftO p q L X (λs=>A.map s.heap.get?) (λw=>(K w.params).map λp=>Ya p.2) N:=λw=>
 byRow2 "special-get-raises" (P:=λw=>(openEnds k_ p w N).map (λs=>(openSeen q L (yP p.main.body) X true s,A.map s.heap.get?))=Ya (openGood q L,(K w.params).map λp=>Ya p.2)) (λw=>Zl8 e f hN hl (h0 w)) (λw=>Zl8 e f hN hl (h1 w)) w
end L3
namespace L3
open PySem PySem.Spec PyProof.Rows L2
theorem ZoS{X:Cx}{pos p:aF}{x:aj}{k:Nat}{F:F3}(G:cD X.prog X.w X.K X.mg X.base k x [] F)(hr:bZ k X.A)(hg:Gl X x:=by rfl)(hdb:(x==("__debug__":aj))=false:=by decide):C3 X (.Call (.Name x p) [] [] pos) (aN F Zd):=by obtain⟨hn,f,fd,m,kp,bi,ok⟩:=G;refine(Zl2 ok hr hg m kp bi .nil YD hdb).imp λσ H Q ak=>?_;obtain⟨ι,M,env,S,E,h⟩:=ak;exact⟨ι,M,[],S,Zo.nil,rfl,h⟩
end L3
set_option maxHeartbeats 4000000
namespace Law
open PySem L3
noncomputable section
def rZ:E3:=eC (.int 8)
def uD:E3:=eC (.str [48,49,50,51,52,53,54,55,56,57])
def jn:oU:=[([112,117,116],[[98,111,120],[110,117,109,98,101,114]]),([97,100,100],[[98,111,120],[98,111,120],[98,111,120]]),([115,117,98],[[98,111,120],[98,111,120],[98,111,120]]),([109,111,114,101],[[98,111,120],[98,111,120],[98,111,120]]),([103,101,116],[[98,111,120],[98,111,120]]),([115,101,116],[[98,111,120],[98,111,120]]),([106,117,109,112],[[114,111,119]]),([119,104,101,110],[[98,111,120],[114,111,119]]),([116,101,108,108],[[98,111,120]]),([104,97,108,116],[])]
def o_:E3:=eC (.int 60)
def JR:S3:=Zw (aP 1 (vy (cL fY tZ (Zc 0) (Za (eC (.str [45])) (Zd))) (cG (Zc 0) (b_ (eC (.int 1))) (eE)) (Zc 0))) (Zw (bD (gA (e2 jY (bB cH (Za (Zc 1) (Zd))) (eC (.int 1))) (e2 nF (bB cH (Za (Zc 1) (Zd))) (o_))) (bG (eC (.bl false))) (bT)) (Zw (bD (cL fY tZ (Zc 1) (Za (eC (.str [48])) (Zd))) (bG (e2 cQ (Zc 0) (eC (.str [48])))) (bT)) (bG (bB Dy (Za (dO (cN (Zc 1)) 1 (cM 2) [] (e2 fJ (Zc 2) (uD))) (Zd))))))
def wk:F3:=dB 1 2 JR
def QM:S3:=bG (cu (e2 vz (Zc 0) (eC (.int 0))) (e2 jY (Zc 0) (Zc 1)))
def lZ:F3:=dB 2 2 QM
def QQ:S3:=Zw (aP 1 (cL fY vL (Zc 0) (Za (eC (.str [32])) (Zd)))) (Zw (aP 2 (e1 (z7 jn) (e2 Zv (Zc 1) (eC (.int 0))))) (Zw (bD (gA (e2 vA (Zc 2) (eC .non)) (e2 Du (bB cH (Za (Zc 1) (Zd))) (e2 di (bB cH (Za (Zc 2) (Zd))) (eC (.int 1))))) (bG (eC .non)) (bT)) (Zw (aP 3 (aB (Za (e2 Zv (Zc 1) (eC (.int 0))) (Zd)))) (Zw (DQ (t_ (Zc 2) (cG (Zc 1) (b_ (eC (.int 1))) (eE))) (qM [4,5]) (Zw (bD (e1 fX (aN wk (Za (Zc 5) (Zd)))) (bG (eC .non)) (bT)) (Zw (aP 6 (bB vM (Za (Zc 5) (Zd)))) (Zw (bD (cu (e2 cQ (Zc 4) (eC (.str [98,111,120]))) (e1 fX (aN lZ (Za (Zc 6) (Za (rZ) (Zd)))))) (bG (eC .non)) (bT)) (fL (cL nH nG (Zc 3) (Za (Zc 6) (Zd)))))))) (bG (bB qK (Za (Zc 3) (Zd))))))))
def Ax:F3:=dB 1 7 QQ
def Eo:S3:=Zw (bD (lX (e2 Dv (e2 Zv (e2 Zv (Zc 0) (e1 cA (eC (.int 1)))) (eC (.int 0))) (iH (Za (eC (.str [104,97,108,116])) (Za (eC (.str [106,117,109,112])) (Zd)))))) (t7 [78,111,82,111,108,108] (Za (eC (.str [116,104,101,32,108,97,115,116,32,114,111,119,32,105,115,32,110,101,105,116,104,101,114,32,97,32,104,97,108,116,32,110,111,114,32,97,32,106,117,109,112])) (Zd))) (fM (bT))) (z6 (cN (Zc 0)) (cM 1) (qP (t_ (e1 (t8 jn) (e2 Zv (Zc 1) (eC (.int 0)))) (cG (Zc 1) (b_ (eC (.int 1))) (eE))) (qM [2,3]) (bD (lX (cu (e2 cQ (Zc 2) (eC (.str [114,111,119]))) (e1 fX (aN lZ (Za (Zc 3) (Za (bB cH (Za (Zc 0) (Zd))) (Zd))))))) (t7 [78,111,82,111,108,108] (Za (yr "there is no row " " to go on to" (Zc 3)) (Zd))) (fM (bT)))))
def wu:F3:=dB 1 4 Eo
def JS:S3:=Zw (fM (aP 1 (aB (Zd)))) (Zw (qP (Jd (cL fY vL (Zc 0) (Za (eC (.str [10])) (Zd)))) (qM [2,3]) (Zw (fM (aP 4 (aN Ax (Za (Zc 3) (Zd))))) (Zw (bD (lX (e2 vA (Zc 4) (eC .non))) (Ek [66,97,100,82,111,119] [114,111,119] (Za (Zc 2) (Zd))) (fM (bT))) (fM (fL (cL nH nG (Zc 1) (Za (Zc 4) (Zd)))))))) (Zw (fL (aN wu (t6 (Za (Zc 1) (Zd))))) (fM (bG (bB qK (Za (Zc 1) (Zd)))))))
def yu:F3:=dB 1 5 JS
def JT:S3:=Zw (bD (e2 jY (Zc 1) (bB cH (Za (Zc 0) (Zd)))) (bG (e2 Zv (Zc 0) (Zc 1))) (bT)) (bG (eC (.int 0)))
def yw:F3:=dB 2 2 JT
def QR:S3:=Zw (aP 2 (aB (Za (eC (.str [112,117,116])) (Za (eC (.str [97,100,100])) (Za (eC (.str [115,117,98])) (Za (eC (.str [109,111,114,101])) (Za (eC (.str [103,101,116])) (Za (eC (.str [115,101,116])) (Za (eC (.str [106,117,109,112])) (Za (eC (.str [119,104,101,110])) (Za (eC (.str [116,101,108,108])) (Za (eC (.str [104,97,108,116])) (Za (eC (.str [106,117,109,112])) (Za (eC (.str [119,104,101,110])) (Zd))))))))))))))) (Zw (aP 3 (e2 Zv (Zc 2) (e2 bO (Zc 0) (eC (.int 12))))) (Zw (aP 4 (e2 cF (Zc 0) (eC (.int 12)))) (Zw (aP 5 (aB (Za (e2 bO (Zc 4) (eC (.int 8))) (Za (e2 bO (e2 cF (Zc 4) (eC (.int 8))) (eC (.int 8))) (Za (e2 bO (e2 cF (Zc 4) (eC (.int 64))) (eC (.int 8))) (Zd)))))) (Zw (bD (e2 cQ (Zc 3) (eC (.str [112,117,116]))) (bG (aB (Za (Zc 3) (Za (e2 Zv (Zc 5) (eC (.int 0))) (Za (e2 xJ (e2 bO (e2 cF (Zc 4) (eC (.int 8))) (e2 nD (eC (.int 10)) (eC (.int 20)))) (e2 nD (eC (.int 10)) (eC (.int 10)))) (Zd)))))) (bT)) (Zw (bD (e2 cQ (Zc 3) (eC (.str [106,117,109,112]))) (bG (aB (Za (Zc 3) (Za (e2 bO (Zc 4) (Zc 1)) (Zd))))) (bT)) (Zw (bD (e2 cQ (Zc 3) (eC (.str [119,104,101,110]))) (bG (aB (Za (Zc 3) (Za (e2 Zv (Zc 5) (eC (.int 0))) (Za (e2 bO (e2 cF (Zc 4) (eC (.int 8))) (Zc 1)) (Zd)))))) (bT)) (Zw (aP 6 (Dz (fK (eC (.str [97,100,100])) (eC (.int 3)) (fK (eC (.str [115,117,98])) (eC (.int 3)) (fK (eC (.str [109,111,114,101])) (eC (.int 3)) (fK (eC (.str [103,101,116])) (eC (.int 2)) (fK (eC (.str [115,101,116])) (eC (.int 2)) (fK (eC (.str [116,101,108,108])) (eC (.int 1)) (fK (eC (.str [104,97,108,116])) (eC (.int 0)) (Iz)))))))))) (bG (e2 di (aB (Za (Zc 3) (Zd))) (cG (Zc 5) (eE) (b_ (e2 xQ (Zc 6) (Zc 3)))))))))))))
def q_:F3:=dB 2 7 QR
def QS:S3:=bG (e2 Zv (aB (Za (Zc 1) (Za (e1 cA (eC (.int 1))) (Za (e2 di (e2 di (Zc 1) (eC (.int 1))) (e2 bO (e2 cF (Zc 0) (eC (.int 4))) (e2 nD (eC (.int 10)) (eC (.int 50))))) (Za (e2 xJ (e1 cA (eC (.int 1))) (e2 bO (e2 cF (Zc 0) (eC (.int 4))) (e2 nD (eC (.int 10)) (eC (.int 50))))) (Zd)))))) (e2 bO (Zc 0) (eC (.int 4))))
def wz:F3:=dB 2 2 QS
def QT:S3:=bG (cL fY vK (eC (.str [10])) (Za (dO (cN (Zc 0)) 1 (cM 1) [] (cL fY vK (eC (.str [32])) (Za (dO (cN (Zc 1)) 1 (cM 2) [] (bB xW (Za (Zc 2) (Zd)))) (Zd)))) (Zd)))
def Ay:F3:=dB 1 1 QT
def JV:S3:=Zw (xR (cN (Zc 0)) (cM 1) (bD (cu (e2 fJ (e2 Zv (Zc 1) (eC (.int 0))) (iH (Za (eC (.str [106,117,109,112])) (Za (eC (.str [119,104,101,110])) (Zd))))) (gA (e2 jY (e2 Zv (Zc 1) (e1 cA (eC (.int 1)))) (eC (.int 0))) (e2 vz (e2 Zv (Zc 1) (e1 cA (eC (.int 1)))) (bB cH (Za (Zc 0) (Zd)))))) (bG (eC (.bl false))) (bT))) (bG (e2 fJ (e2 Zv (e2 Zv (Zc 0) (e1 cA (eC (.int 1)))) (eC (.int 0))) (iH (Za (eC (.str [104,97,108,116])) (Za (eC (.str [106,117,109,112])) (Zd))))))
def JX:F3:=dB 1 2 JV
def Az:S3:=Zw (aP 1 (eC .non)) (Zw (aP 2 (eC .non)) (Zw (xX [[66,97,100,67,117,116],[66,97,100,71,105,118,101,110],[66,97,100,82,111,119],[78,111,68,105,115,112,117,116,101],[78,111,82,111,108,108],[78,111,84,105,109,101],[83,112,101,110,116],[85,110,102,105,116]] 3 (aP 1 (aN yu (t6 (Za (aN Ay (Za (Zc 0) (Zd))) (Zd))))) (aP 2 (Zc 3))) (Zw (bD (aN JX (Za (Zc 0) (Zd))) (bG (cu (e2 vA (Zc 2) (eC .non)) (cu (e1 (Dw .tuple) (Zc 1)) (e2 cQ (bB vD (Za (Zc 1) (Zd))) (dO (cN (Zc 0)) 1 (cM 5) [] (bB qK (Za (Zc 5) (Zd)))))))) (bT)) (Zw (aP 4 (aB (Za (e1 (dD [[66,97,100,67,117,116]] [[66,97,100,71,105,118,101,110],[66,97,100,82,111,119],[78,111,68,105,115,112,117,116,101],[78,111,82,111,108,108],[78,111,84,105,109,101],[83,112,101,110,116],[85,110,102,105,116]]) (Zc 2)) (Za (e1 (dD [[66,97,100,71,105,118,101,110]] [[66,97,100,67,117,116],[66,97,100,82,111,119],[78,111,68,105,115,112,117,116,101],[78,111,82,111,108,108],[78,111,84,105,109,101],[83,112,101,110,116],[85,110,102,105,116]]) (Zc 2)) (Za (e1 (dD [[78,111,68,105,115,112,117,116,101]] [[66,97,100,67,117,116],[66,97,100,71,105,118,101,110],[66,97,100,82,111,119],[78,111,82,111,108,108],[78,111,84,105,109,101],[83,112,101,110,116],[85,110,102,105,116]]) (Zc 2)) (Zd)))))) (Zw (aP 4 (e2 di (Zc 4) (aB (Za (e1 (dD [[78,111,84,105,109,101]] [[66,97,100,67,117,116],[66,97,100,71,105,118,101,110],[66,97,100,82,111,119],[78,111,68,105,115,112,117,116,101],[78,111,82,111,108,108],[83,112,101,110,116],[85,110,102,105,116]]) (Zc 2)) (Za (e1 (dD [[83,112,101,110,116]] [[66,97,100,67,117,116],[66,97,100,71,105,118,101,110],[66,97,100,82,111,119],[78,111,68,105,115,112,117,116,101],[78,111,82,111,108,108],[78,111,84,105,109,101],[85,110,102,105,116]]) (Zc 2)) (Za (e1 (dD [[85,110,102,105,116]] [[66,97,100,67,117,116],[66,97,100,71,105,118,101,110],[66,97,100,82,111,119],[78,111,68,105,115,112,117,116,101],[78,111,82,111,108,108],[78,111,84,105,109,101],[83,112,101,110,116]]) (Zc 2)) (Zd))))))) (Zw (bD (gA (bB QD (Za (Zc 4) (Zd))) (e1 (dD [[66,97,100,82,111,119]] [[66,97,100,67,117,116],[66,97,100,71,105,118,101,110],[78,111,68,105,115,112,117,116,101],[78,111,82,111,108,108],[78,111,84,105,109,101],[83,112,101,110,116],[85,110,102,105,116]]) (Zc 2))) (bG (eC (.bl false))) (bT)) (bG (cu (e1 (dD [[78,111,82,111,108,108]] [[66,97,100,67,117,116],[66,97,100,71,105,118,101,110],[66,97,100,82,111,119],[78,111,68,105,115,112,117,116,101],[78,111,84,105,109,101],[83,112,101,110,116],[85,110,102,105,116]]) (Zc 2)) (e1 (dD [[66,97,100,67,117,116],[66,97,100,71,105,118,101,110],[66,97,100,82,111,119],[78,111,68,105,115,112,117,116,101],[78,111,82,111,108,108],[78,111,84,105,109,101],[83,112,101,110,116],[85,110,102,105,116]] []) (Zc 2))))))))))
def iQ:F3:=dB 1 5 Az
def JZ:S3:=Zw (aP 0 (aB (Za (iM [78,111,82,111,108,108] (Za (eC (.str [120])) (Zd))) (Za (iM [66,97,100,67,117,116] (Za (eC (.str [120])) (Zd))) (Za (iM [78,111,84,105,109,101] (Za (eC (.str [120])) (Zd))) (Za (iM [78,111,68,105,115,112,117,116,101] (Za (eC (.str [120])) (Zd))) (Za (iM [66,97,100,71,105,118,101,110] (Za (eC (.str [120])) (Zd))) (Za (iM [83,112,101,110,116] (Za (eC (.str [120])) (Zd))) (Zd))))))))) (Zw (xR (cN (Zc 0)) (cM 1) (bD (gA (e1 fX (e1 (dD [[66,97,100,67,117,116],[66,97,100,71,105,118,101,110],[66,97,100,82,111,119],[78,111,68,105,115,112,117,116,101],[78,111,82,111,108,108],[78,111,84,105,109,101],[83,112,101,110,116],[85,110,102,105,116]] []) (Zc 1))) (gA (e1 (dD [[66,97,100,82,111,119]] [[66,97,100,67,117,116],[66,97,100,71,105,118,101,110],[78,111,68,105,115,112,117,116,101],[78,111,82,111,108,108],[78,111,84,105,109,101],[83,112,101,110,116],[85,110,102,105,116]]) (Zc 1)) (e1 (dD [[85,110,102,105,116]] [[66,97,100,67,117,116],[66,97,100,71,105,118,101,110],[66,97,100,82,111,119],[78,111,68,105,115,112,117,116,101],[78,111,82,111,108,108],[78,111,84,105,109,101],[83,112,101,110,116]]) (Zc 1)))) (bG (eC (.bl false))) (bT))) (Zw (aP 2 (Em [85,110,102,105,116] [102,97,117,108,116] (JM [115,116,101,112] 5) (Za (iH (Za (eC (.str [115,116,101,112])) (Za (eC (.int 5)) (Zd)))) (Zd)))) (bG (cu (e1 (dD [[66,97,100,67,117,116],[66,97,100,71,105,118,101,110],[66,97,100,82,111,119],[78,111,68,105,115,112,117,116,101],[78,111,82,111,108,108],[78,111,84,105,109,101],[83,112,101,110,116],[85,110,102,105,116]] []) (Zc 2)) (e2 cQ (e1 (En [85,110,102,105,116] [102,97,117,108,116]) (Zc 2)) (iH (Za (eC (.str [115,116,101,112])) (Za (eC (.int 5)) (Zd)))))))))
def A_:F3:=dB 0 3 JZ
def QV:S3:=Zw (aP 1 (aN yw (Za (Zc 0) (Za (eC (.int 0)) (Zd))))) (Zw (aP 2 (aN yw (Za (Zc 0) (Za (eC (.int 1)) (Zd))))) (Zw (aP 3 (e2 di (bB cH (Za (cG (Zc 0) (b_ (eC (.int 2))) (b_ (eC (.int 42)))) (Zd))) (eC (.int 1)))) (Zw (aP 4 (dO (cN (cG (Zc 0) (b_ (eC (.int 2))) (b_ (eC (.int 42))))) 1 (cM 10) [] (aN q_ (Za (Zc 10) (Za (Zc 3) (Zd)))))) (Zw (fL (cL nH nG (Zc 4) (Za (e2 Zv (aB (Za (aB (Za (eC (.str [104,97,108,116])) (Zd))) (Za (aB (Za (eC (.str [106,117,109,112])) (Za (e2 bO (Zc 2) (Zc 3)) (Zd)))) (Zd)))) (e2 bO (Zc 1) (eC (.int 2)))) (Zd)))) (Zw (bD (e1 fX (aN iQ (Za (Zc 4) (Zd)))) (bG (eC (.bl false))) (bT)) (Zw (aP 5 (dO (cN (Zc 4)) 1 (cM 10) [] (bB vD (Za (Zc 10) (Zd))))) (Zw (aP 6 (dO (zV (Zc 3)) 1 (cM 10) [e2 fJ (e2 Zv (e2 Zv (Zc 4) (Zc 10)) (eC (.int 0))) (iH (Za (eC (.str [106,117,109,112])) (Za (eC (.str [119,104,101,110])) (Zd))))] (Zc 10))) (Zw (bD (cu (e2 nF (e2 bO (e2 cF (Zc 1) (eC (.int 2))) (eC (.int 3))) (eC (.int 0))) (e2 nF (bB cH (Za (Zc 6) (Zd))) (eC (.int 0)))) (Zw (aP 7 (e2 Zv (Zc 6) (e2 bO (Zc 2) (bB cH (Za (Zc 6) (Zd)))))) (oO (e2 Zv (Zc 5) (Zc 7)) (e1 cA (eC (.int 1))) (aN wz (Za (e2 cF (Zc 1) (eC (.int 6))) (Za (Zc 3) (Zd)))))) (bT)) (Zw (bD (e2 cQ (e2 bO (e2 cF (Zc 1) (eC (.int 2))) (eC (.int 3))) (eC (.int 0))) (Zw (aP 7 (e2 bO (Zc 2) (Zc 3))) (Zw (aP 8 (e2 Zv (aB (Za (aB (Za (eC (.str [106,117,109,112])) (Za (eC (.int 0)) (Zd)))) (Za (aB (Za (eC (.str [119,104,101,110])) (Za (e2 bO (e2 cF (Zc 2) (Zc 3)) (eC (.int 8))) (Za (eC (.int 0)) (Zd))))) (Zd)))) (e2 bO (e2 cF (Zc 1) (eC (.int 6))) (eC (.int 2))))) (Zw (oO (Zc 8) (e1 cA (eC (.int 1))) (aN wz (Za (e2 cF (Zc 1) (eC (.int 12))) (Za (e2 di (Zc 3) (eC (.int 1))) (Zd))))) (aP 5 (e2 di (e2 di (cG (Zc 5) (eE) (b_ (Zc 7))) (aB (Za (Zc 8) (Zd)))) (cG (Zc 5) (b_ (Zc 7)) (eE))))))) (bT)) (Zw (bD (e1 fX (aN iQ (Za (Zc 5) (Zd)))) (bG (eC (.bl false))) (bT)) (Zw (aP 9 (aB (Za (aB (Za (eC (.str [112,117,116])) (Za (eC (.int 0)) (Za (eC (.int 5)) (Zd))))) (Za (aB (Za (eC (.str [97,100,100])) (Za (eC (.int 1)) (Za (eC (.int 2)) (Za (eC (.int 3)) (Zd)))))) (Za (aB (Za (eC (.str [115,117,98])) (Za (eC (.int 7)) (Za (eC (.int 7)) (Za (eC (.int 7)) (Zd)))))) (Za (aB (Za (eC (.str [109,111,114,101])) (Za (eC (.int 0)) (Za (eC (.int 1)) (Za (eC (.int 0)) (Zd)))))) (Za (aB (Za (eC (.str [103,101,116])) (Za (eC (.int 1)) (Za (eC (.int 2)) (Zd))))) (Za (aB (Za (eC (.str [115,101,116])) (Za (eC (.int 3)) (Za (eC (.int 0)) (Zd))))) (Zd))))))))) (Zw (aP 9 (e2 di (Zc 9) (aB (Za (aB (Za (eC (.str [116,101,108,108])) (Za (eC (.int 6)) (Zd)))) (Za (aB (Za (eC (.str [119,104,101,110])) (Za (eC (.int 1)) (Za (eC (.int 0)) (Zd))))) (Za (aB (Za (eC (.str [106,117,109,112])) (Za (eC (.int 0)) (Zd)))) (Za (aB (Za (eC (.str [104,97,108,116])) (Zd))) (Zd)))))))) (Zw (oO (Zc 4) (e1 cA (eC (.int 1))) (e2 Zv (Zc 9) (e2 bO (e2 cF (Zc 2) (eC (.int 5))) (eC (.int 10))))) (Zw (oO (Zc 5) (e1 cA (eC (.int 1))) (e2 Zv (Zc 4) (e1 cA (eC (.int 1))))) (bG (cu (aN iQ (Za (Zc 4) (Zd))) (cu (aN iQ (Za (Zc 5) (Zd))) (cu (aN iQ (Za (aB (Za (e2 Zv (Zc 4) (e1 cA (eC (.int 1)))) (Zd))) (Zd))) (aN A_ (Zd))))))))))))))))))))
def ZkF:F3:=dB 1 10 QV
end
end Law
namespace Law
open PySem PySem.Spec PyProof.Rows L2 L3
theorem jM{N P:List aj}{sc:Scope}(a:sc.kind= .function:=by rfl)(b:sc.isCoroutine=false:=by rfl)(c:sc.isGenerator=false:=by rfl)(d:N.Nodup:=by decide +kernel)(e:N.take P.length=P:=by rfl)(f:∀x∈P,sc.names.lookup x=Ya .local\/sc.names.lookup x=Ya .cell:=by decide +kernel)(g:∀y∈sc.names,y.2≠ .free:=by decide +kernel):dY N P sc:=⟨a,b,c,d,e,f,g⟩
noncomputable def top(i:Nat):Ydr:=PySem.Challenge.pw_stepledger_k04_no_roll.main.body.getD i (.Pass ⟨0,0,0,0⟩)
noncomputable abbrev Ba:Ydr:=top 15
noncomputable abbrev Bb:Ydr:=top 16
noncomputable abbrev Bc:Ydr:=top 17
noncomputable abbrev Bd:Ydr:=top 18
noncomputable abbrev Be:Ydr:=top 19
noncomputable abbrev Bf:Ydr:=top 21
noncomputable abbrev Bg:Ydr:=top 22
noncomputable abbrev Bh:Ydr:=top 23
noncomputable abbrev Bj:Ydr:=top 24
noncomputable abbrev Bk:Ydr:=top 25
noncomputable abbrev Bl:Ydr:=top 26
noncomputable abbrev Bm:Ydr:=top 27
noncomputable abbrev um:Ydr:=top 28
noncomputable abbrev yx:Ydr:=(Zkz (top 8)).getD 0 (.Pass ⟨0,0,0,0⟩)
noncomputable abbrev yC:Ydr:=(Zkz (top 9)).getD 0 (.Pass ⟨0,0,0,0⟩)
structure yD(K:uK)(mg:aj->Option Yd)(aH bh bf aQ a_ aX bj bw aO iR iU:Yl):Prop where
  Bv:mg "LedgerError" =Ya (.ref aH)
  RZ:mg "BadCut" =Ya (.ref bh)
  Rv:mg "BadGiven" =Ya (.ref bf)
  Kp:mg "BadRow" =Ya (.ref aQ)
  Rr:mg "NoDispute" =Ya (.ref a_)
  Ff:mg "NoRoll" =Ya (.ref aX)
  R0:mg "NoTime" =Ya (.ref bj)
  R_:mg "Spent" =Ya (.ref bw)
  Ky:mg "Unfit" =Ya (.ref aO)
  AfF:v8 K [66,97,100,67,117,116] bh
  AdO:v8 K [66,97,100,71,105,118,101,110] bf
  Fi:El K [66,97,100,82,111,119] aQ aH iR "row" "BadRow.__init__" yx ["self","row"]
  AcD:v8 K [78,111,68,105,115,112,117,116,101] a_
  Kz:v8 K [78,111,82,111,108,108] aX
  AfG:v8 K [78,111,84,105,109,101] bj
  Agy:v8 K [83,112,101,110,116] bw
  Fo:El K [85,110,102,105,116] aO aH iU "fault" "Unfit.__init__" yC ["self","fault"]
  Ahf:JL K [66,97,100,82,111,119] aQ (nm [114,111,119])
  Agz:JL K [85,110,102,105,116] aO (nm [102,97,117,108,116])
  AbY:∀c C,([[66,97,100,67,117,116],[66,97,100,71,105,118,101,110],[66,97,100,82,111,119],[78,111,68,105,115,112,117,116,101],[78,111,82,111,108,108],[78,111,84,105,109,101],[83,112,101,110,116],[85,110,102,105,116]]:List (List Nat)).contains c=true->ClsAt K c C->pW K (.ref C) (.ref aH)=Ya true
  AfH:j8 K [[78,111,82,111,108,108]] [[66,97,100,67,117,116],[66,97,100,71,105,118,101,110],[66,97,100,82,111,119],[78,111,68,105,115,112,117,116,101],[78,111,84,105,109,101],[83,112,101,110,116],[85,110,102,105,116]] [.ref aX]
  Acd:j8 K [[66,97,100,67,117,116],[66,97,100,71,105,118,101,110],[66,97,100,82,111,119],[78,111,68,105,115,112,117,116,101],[78,111,82,111,108,108],[78,111,84,105,109,101],[83,112,101,110,116],[85,110,102,105,116]] [] [.type "ValueError"]
  Sd:j8 K [[66,97,100,82,111,119]] [[66,97,100,67,117,116],[66,97,100,71,105,118,101,110],[78,111,68,105,115,112,117,116,101],[78,111,82,111,108,108],[78,111,84,105,109,101],[83,112,101,110,116],[85,110,102,105,116]] [.ref aQ]
  SJ:j8 K [[85,110,102,105,116]] [[66,97,100,67,117,116],[66,97,100,71,105,118,101,110],[66,97,100,82,111,119],[78,111,68,105,115,112,117,116,101],[78,111,82,111,108,108],[78,111,84,105,109,101],[83,112,101,110,116]] [.ref aO]
  AgA:j8 K [[83,112,101,110,116]] [[66,97,100,67,117,116],[66,97,100,71,105,118,101,110],[66,97,100,82,111,119],[78,111,68,105,115,112,117,116,101],[78,111,82,111,108,108],[78,111,84,105,109,101],[85,110,102,105,116]] [.ref bw]
  AfI:j8 K [[78,111,84,105,109,101]] [[66,97,100,67,117,116],[66,97,100,71,105,118,101,110],[66,97,100,82,111,119],[78,111,68,105,115,112,117,116,101],[78,111,82,111,108,108],[83,112,101,110,116],[85,110,102,105,116]] [.ref bj]
  AcE:j8 K [[78,111,68,105,115,112,117,116,101]] [[66,97,100,67,117,116],[66,97,100,71,105,118,101,110],[66,97,100,82,111,119],[78,111,82,111,108,108],[78,111,84,105,109,101],[83,112,101,110,116],[85,110,102,105,116]] [.ref a_]
  AdP:j8 K [[66,97,100,71,105,118,101,110]] [[66,97,100,67,117,116],[66,97,100,82,111,119],[78,111,68,105,115,112,117,116,101],[78,111,82,111,108,108],[78,111,84,105,109,101],[83,112,101,110,116],[85,110,102,105,116]] [.ref bf]
  AfJ:j8 K [[66,97,100,67,117,116]] [[66,97,100,71,105,118,101,110],[66,97,100,82,111,119],[78,111,68,105,115,112,117,116,101],[78,111,82,111,108,108],[78,111,84,105,109,101],[83,112,101,110,116],[85,110,102,105,116]] [.ref bh]
  Ro:j8 K [[66,97,100,67,117,116],[66,97,100,71,105,118,101,110],[66,97,100,82,111,119],[78,111,68,105,115,112,117,116,101],[78,111,82,111,108,108],[78,111,84,105,109,101],[83,112,101,110,116],[85,110,102,105,116]] [] [.ref aH]
theorem Zeh:dY ["self","row"] ["self","row"] (Zq yx):=jM
variable{bh bf aQ aH a_ aX bj bw aO iR iU:Yl}
theorem ZjD{P:Yz}{w:aD}{K:uK}{mg:aj->Option Yd}{base:ao}(XO:yD K mg aH bh bf aQ a_ aX bj bw aO iR iU):Zl9 P w K mg base aQ iR "row" ["self","row"]:=by obtain⟨fd,F,b⟩:=XO.Fi.fn;exact⟨fd,b,fnI (k:=0) F Zeh rfl λcdv A outer s H E hr=>⟨_,HJ (HS (Zkm XO.Fi.own XO.Bv (tV (tO (i:=0) rfl (Or.inl rfl)) (tV (Zn9 (tO (i:=1) rfl (Or.inl rfl))) Dm)))) (HN (ZoP XO.Fi.own (tO (i:=0) rfl (Or.inl rfl)) (tO (i:=1) rfl (Or.inl rfl)))),λD e i hi he hq=>Zsu rfl hi he hq⟩⟩
theorem Zew:dY ["self","fault"] ["self","fault"] (Zq yC):=jM
theorem Zll{P:Yz}{w:aD}{K:uK}{mg:aj->Option Yd}{base:ao}(XO:yD K mg aH bh bf aQ a_ aX bj bw aO iR iU):Zk1 P w K mg base aO iU "fault" ["self","fault"] (JQ K ⟨([115,116,101,112]:List Nat).toArray⟩ 5):=by obtain⟨fd,F,b⟩:=XO.Fo.fn;exact⟨fd,b,fnV (k:=0) F Zew rfl λcdv A outer s H E hr=>⟨_,HJ (HS (Zkm XO.Fo.own XO.Bv (tV (tO (i:=0) rfl (Or.inl rfl)) (tV (Zmx (tO (i:=1) rfl (Or.inl rfl)) hr.gd (j7 hr) (by decide +kernel) (by decide +kernel) (by decide +kernel)) Dm)))) (HN (Zpm XO.Fo.own (tO (i:=0) rfl (Or.inl rfl)) (tO (i:=1) rfl (Or.inl rfl)))),λD e y hi he hq=>Zs7 rfl hi he hq⟩⟩
structure Txt(K:uK)(mg:aj->Option Yd):Prop where
  vg:True
  Ace:mg "ValueError" =Yi
  AgO:mg "all" =Yi
  AgP:mg "any" =Yi
  AcF:mg "enumerate" =Yi
  AgQ:mg "int" =Yi
  jN:mg "isinstance" =Yi
  pU:mg "len" =Yi
  Tc:mg "list" =Yi
  AgB:mg "range" =Yi
  AgR:mg "str" =Yi
  Fp:mg "tuple" =Yi
  Td:mg "zip" =Yi
  rZ:∃t,mg "BOXES" =Ya (.int 8 t)
  uD:∃t,mg "FIGURES" =Ya (.str "0123456789" t)
  SM:∃a,mg "FORMS" =Ya (.ref a)/\v_ K a jn
  o_:∃t,mg "MOST_FIGURES" =Ya (.int 60 t)
variable{pos:aF}{X:Cx}
theorem Znm(T:Txt X.K X.mg)(hg:Gl X "BOXES":=by rfl):C3 X (.Name "BOXES" pos) rZ:=by obtain⟨t,e⟩:=T.rZ;exact Pu (v:=.int 8) e ⟨t,rfl⟩ (λ_ _=>Rep.int) hg
theorem ZjS(T:Txt X.K X.mg)(hg:Gl X "FIGURES":=by rfl):C3 X (.Name "FIGURES" pos) uD:=by obtain⟨t,e⟩:=T.uD;refine Pu (v:=.str ⟨([48,49,50,51,52,53,54,55,56,57]:List Nat).toArray⟩) e ⟨t,?_⟩ (λ_ _=>Rep.str) hg;exact congrArg (λz=>Value.str z t) (by decide +kernel)
theorem Zlr{e:Expr}{npos apos cpos:aF}{g:E3}(T:Txt X.K X.mg)(he:C3 X e g)(m:M1 X (.Name "FORMS" npos) "get" apos e cpos:=by exact⟨rfl,rfl,rfl,rfl⟩)(hg:Gl X "FORMS":=by rfl):C3 X (.Call (.Attribute (.Name "FORMS" npos) "get" apos) [e] [] cpos) (e1 (z7 jn) g):=by obtain⟨a,hm,ht⟩:=T.SM;exact Zry hm ht he m hg
theorem Zlv{e:Expr}{npos:aF}{g:E3}(T:Txt X.K X.mg)(he:C3 X e g)(hs:zM e:=by exactλ_ _=>rfl)(hg:Gl X "FORMS":=by rfl):C3 X (.Subscript (.Name "FORMS" npos) e pos) (e1 (t8 jn) g):=by obtain⟨a,hm,ht⟩:=T.SM;exact ZpW hm ht he hs hg
theorem Zft(T:Txt X.K X.mg)(hg:Gl X "MOST_FIGURES":=by rfl):C3 X (.Name "MOST_FIGURES" pos) o_:=by obtain⟨t,e⟩:=T.o_;exact Pu (v:=.int 60) e ⟨t,rfl⟩ (λ_ _=>Rep.int) hg
section
variable {P:Yz} {w:aD} {K:uK} {mg:aj->Option Yd} {base:ao}
theorem ZeG:dY ["word","figures"] ["word"] (Zq Ba):=jM
theorem ZhJ(A:dG K mg "is_number" Ba ["word"])(T:Txt K mg):cD P w K mg base 1 "is_number" ["word"] wk:=
  cD.of (N:=["word","figures"]) (k:=0) A ZeG λf cdv A outer s H E hr=>by
    have hu:=j7 hr;unfold JR;refine Zn ?_ ?_
    .exact dm 1 ZeG.nd (ZuC (lY (Zdc (Ze 0) (Zb aR Zg))) (vW v5 (Ze 0) (qQ Zj) Ac) (Ze 0))
    .refine Zn ?_ ?_
     .refine iJ ?_ ?_ ?_
      .refine CW.ct ?_;refine z_ ?_ ?_
       .exact gR Jm (nY (id:="len") qW T.pU qX (Zb (Ze 1) Zg)) Zj
       .exact DX (gR PL (nY (id:="len") qW T.pU qX (Zb (Ze 1) Zg)) (Zft T))
      .exact cW (dF z9)
      .exact gC
     .refine Zn ?_ ?_
      .exact iJ (lY (Zdc (Ze 1) (Zb aR Zg))) (cW (dF (vU ((uc hu)) (Ze 0) aR))) gC
      .refine cW ?_;refine dF ?_;refine nY (id:="all") ?_ ?_ ?_ ?_
       .exact(Zte rfl)
       .exact T.AgO
       .exact ZrQ
       .exact Zb (Ec (N':=["word","figures","figure"]) (yd rfl (by kernel_rfl)) rfl rfl (uf (Ze 1)) (λC cl s H ex=>⟨(qR 2 ((show u5 (["word","figures","figure"]:List aj)by decide +kernel))),Ai,(vU ((Ju hu)) (Ze 2) (ZjS T))⟩)) Zg
theorem ZhD:dY ["number","many"] ["number","many"] (Zq Be):=jM
theorem Zh4(A:dG K mg "is_within" Be ["number","many"])(T:Txt K mg):cD P w K mg base 1 "is_within" ["number","many"] lZ:=cD.of (N:=["number","many"]) (k:=0) A ZhD λf cdv A outer s H E hr=>by have hu:=j7 hr;unfold QM;exact cW (dF (vV (vU Ztn (Ze 0) Zj) (DW (vU Jm (Ze 0) (Ze 1)))))
theorem yE:dY ["line","words","form","row","kind","word","number"] ["line"] (Zq Bc):=jM
theorem ZiD(A:dG K mg "read_row" Bc ["line"])(T:Txt K mg)(Kd:cD P w K mg base 1 "is_number" ["word"] wk)(yK:cD P w K mg base 1 "is_within" ["number","many"] lZ):cD P w K mg base 2 "read_row" ["line"] Ax:=
  cD.of (N:=["line","words","form","row","kind","word","number"]) (k:=1) A yE λf cdv A outer s H E hr=>by
    have hu:=j7 hr;unfold QQ;refine Zn ?_ ?_
    .exact dm 1 yE.nd (Zfh (Ze 0) (Zb aR Zg))
    .refine Zn ?_ ?_
     .exact dm 2 yE.nd (Zlr T (eG eN (Ze 1) Zj))
     .refine Zn ?_ ?_
      .refine iJ ?_ ?_ ?_
       .refine CW.ct ?_;refine z_ ?_ ?_
        .exact gR PN (Ze 2) vR
        .refine DX ?_;refine gR ?_ ?_ ?_
         .exact(Zuk hu)
         .exact nY (id:="len") qW T.pU qX (Zb (Ze 1) Zg)
         .exact bJ qU (nY (id:="len") qW T.pU qX (Zb (Ze 2) Zg)) Zj
       .exact cW (dF vR)
       .exact gC
      .refine Zn ?_ ?_
       .exact dm 3 yE.nd (cV (Zb (eG eN (Ze 1) Zj) Zg))
       .refine Zn ?_ ?_
        .refine ZoZ ?_ ?_ ?_ ?_ ?_
         .exact rfl
         .exact rfl
         .exact Zkh T.Td (Ze 2) (vW v5 (Ze 1) (qQ Zj) Ac)
         .exact PB rfl (Ad 4 yE.nd (Ad 5 yE.nd Pz))
         .refine Zn ?_ ?_
          .exact iJ (Aa (lY (jk (k:=1) (ps:=["word"]) Kd (hr.mono (by decide)) (Zb (Ze 5) Zg)))) (cW (dF vR)) gC
          .refine Zn ?_ ?_
           .exact dm 6 yE.nd (xY (T:="int") Zq4 T.AgQ Zrc (Zb (Ze 5) Zg))
           .refine Zn ?_ ?_
            .refine iJ ?_ ?_ ?_
             .refine CW.ct ?_;refine Jh ?_ ?_
              .exact gR ((uc hu)) (Ze 4) aR
              .exact Jg (Aa (lY (jk (k:=1) (ps:=["number","many"]) yK (hr.mono (by decide)) (Zb (Ze 6) (Zb (Znm T) Zg)))))
             .exact cW (dF vR)
             .exact gC
            .exact cW (Px (Qh (Ze 3) (Zb (Ze 6) Zg)))
        .exact cW (dF (xY (T:="tuple") Qi T.Fp Qj (Zb (Ze 3) Zg)))
theorem J0:dY ["rows","row","kind","number"] ["rows"] (Zq Bd):=jM
theorem Zez(A:dG K mg "refuse_no_roll" Bd ["rows"])(T:Txt K mg)(XO:yD K mg aH bh bf aQ a_ aX bj bw aO iR iU)(yK:cD P w K mg base 1 "is_within" ["number","many"] lZ):o5 P w K mg base 2 "refuse_no_roll" ["rows"] wu:=
  o5.of (N:=["rows","row","kind","number"]) (k:=1) A J0 λf cdv A outer s H E hr=>by
    have hu:=j7 hr;unfold Eo;refine Al ?_ ?_
    .refine Qv ?_ ?_ ?_
     .refine gR ?_ ?_ ?_
      .exact(Zox hu)
      .exact eG eN (eG eN (Ze 0) (nW nZ Zj)) Zj
      .exact Ab (Zb aR (Zb aR Zg))
     .exact uh (Zhd (C:=aX) XO.Kz XO.Ff (Zb aR Zg))
     .exact Qu gC
    .refine uh ?_;refine ZoY ?_ ?_ ?_ ?_ ?_
     .exact Nh
     .exact rfl
     .exact uf (Ze 0)
     .exact qR 1 J0.nd
     .refine uh ?_;refine Zje ?_ ?_ ?_ ?_ ?_
      .exact Nh
      .exact rfl
      .exact Zkh T.Td (Zlv T (eG eN (Ze 1) Zj)) (vW v5 (Ze 1) (qQ Zj) Ac)
      .exact PB rfl (Ad 2 J0.nd (Ad 3 J0.nd Pz))
      .refine uh ?_;refine Qv ?_ ?_ ?_
       .refine CW.ct ?_;refine Jh ?_ ?_
        .exact gR ((uc hu)) (Ze 2) aR
        .refine Jg ?_;exact Aa (lY (jk (k:=1) (ps:=["number","many"]) yK (hr.mono (by decide)) (Zb (Ze 3) (Zb (nY (id:="len") qW T.pU qX (Zb (Ze 0) Zg)) Zg))))
       .exact uh (Zhd (C:=aX) XO.Kz XO.Ff (Zb (Zrp (Ze 3)) Zg))
       .exact Qu gC
theorem Ep:dY ["text","rows","number","line","row"] ["text"] (Zq Bb):=jM
theorem Zij(A:dG K mg "read_roll" Bb ["text"])(T:Txt K mg)(XO:yD K mg aH bh bf aQ a_ aX bj bw aO iR iU)(Kl:cD P w K mg base 2 "read_row" ["line"] Ax)(EY:o5 P w K mg base 2 "refuse_no_roll" ["rows"] wu):o5 P w K mg base 3 "read_roll" ["text"] yu:=
  o5.of (N:=["text","rows","number","line","row"]) (k:=2) A Ep λf cdv A outer s H E hr=>by
    have hu:=j7 hr;unfold JS;refine Al ?_ ?_
    .exact Jx (dm 1 Ep.nd (cV Zg))
    .refine Al ?_ ?_
     .refine Zje ?_ ?_ ?_ ?_ ?_
      .exact Nh
      .exact rfl
      .exact Zl6 T.AcF (Zfh (Ze 0) (Zb aR Zg))
      .exact PB rfl (Ad 2 Ep.nd (Ad 3 Ep.nd Pz))
      .refine Al ?_ ?_
       .exact Jx (dm 4 Ep.nd (jk (k:=2) (ps:=["line"]) Kl (hr.mono (by decide)) (Zb (Ze 3) Zg)))
       .refine Al ?_ ?_
        .exact Qv (gR PN (Ze 4) vR) (uh (Zj4 (C:=aQ) (fI:=iR) (fn:="row") (CL:=aH) (qual:="BadRow.__init__") (st:=yx) (ps:=["self","row"]) XO.Fi (ZjD XO) (hr.mono (by decide)) XO.Kp (Zb (Ze 2) Zg))) (Qu gC)
        .exact uh (Jx (Px (Qh (Ze 1) (Zb (Ze 4) Zg))))
     .refine Al ?_ ?_
      .exact ZmS (Zkx (k:=2) (ps:=["rows"]) EY (hr.mono (by decide)) (Zb (Ze 1) Zg))
      .exact uh (Jx (dF (xY (T:="tuple") Qi T.Fp Qj (Zb (Ze 1) Zg))))
theorem Zfv:dY ["script","k"] ["script","k"] (Zq Bf):=jM
theorem Zfu(A:dG K mg "_law_cell_at" Bf ["script","k"])(T:Txt K mg):cD P w K mg base 1 "_law_cell_at" ["script","k"] yw:=
  cD.of (N:=["script","k"]) (k:=0) A Zfv λf cdv A outer s H E hr=>by
    have hu:=j7 hr;unfold JT;refine Zn ?_ ?_
    .refine iJ ?_ ?_ ?_
     .exact gR Jm (Ze 1) (nY (id:="len") qW T.pU qX (Zb (Ze 0) Zg))
     .exact cW (dF (eG eN (Ze 0) (Ze 1)))
     .exact gC
    .exact cW (dF Zj)
theorem Bo:dY ["cell","many","names","name","rest","boxes","sizes"] ["cell","many"] (Zq Bg):=jM
theorem Zja(A:dG K mg "_law_row" Bg ["cell","many"])(T:Txt K mg):cD P w K mg base 1 "_law_row" ["cell","many"] q_:=
  cD.of (N:=["cell","many","names","name","rest","boxes","sizes"]) (k:=0) A Bo λf cdv A outer s H E hr=>by
    have hu:=j7 hr;unfold QR;refine Zn ?_ ?_
    .refine dm 2 ?_ ?_
     .exact Bo.nd
     .refine cV ?_;refine Zb ?_ ?_
      .exact aR
      .refine Zb ?_ ?_
       .exact aR
       .refine Zb ?_ ?_
        .exact aR
        .refine Zb ?_ ?_
         .exact aR
         .refine Zb ?_ ?_
          .exact aR
          .exact Zb aR (Zb aR (Zb aR (Zb aR (Zb aR (Zb aR (Zb aR Zg))))))
    .refine Zn ?_ ?_
     .exact dm 3 Bo.nd (eG eN (Ze 2) (bJ gU (Ze 0) Zj))
     .refine Zn ?_ ?_
      .exact dm 4 Bo.nd (bJ j5 (Ze 0) Zj)
      .refine Zn ?_ ?_
       .refine dm 5 ?_ ?_
        .exact Bo.nd
        .refine cV ?_;refine Zb ?_ ?_
         .exact bJ gU (Ze 4) Zj
         .refine Zb ?_ ?_
          .exact bJ gU (bJ j5 (Ze 4) Zj) Zj
          .exact Zb (bJ gU (bJ j5 (Ze 4) Zj) Zj) Zg
       .refine Zn ?_ ?_
        .refine iJ ?_ ?_ ?_
         .exact gR ((uc hu)) (Ze 3) aR
         .refine cW ?_;refine dF ?_;refine cV ?_;refine Zb ?_ ?_
          .exact Ze 3
          .refine Zb ?_ ?_
           .exact eG eN (Ze 5) Zj
           .refine Zb ?_ ?_
            .exact bJ ZpF (bJ gU (bJ j5 (Ze 4) Zj) (bJ Jl Zj Zj)) (bJ Jl Zj Zj)
            .exact Zg
         .exact gC
        .refine Zn ?_ ?_
         .refine iJ ?_ ?_ ?_
          .exact gR ((uc hu)) (Ze 3) aR
          .exact cW (dF (cV (Zb (Ze 3) (Zb (bJ gU (Ze 4) (Ze 1)) Zg))))
          .exact gC
         .refine Zn ?_ ?_
          .refine iJ ?_ ?_ ?_
           .exact gR ((uc hu)) (Ze 3) aR
           .refine cW ?_;refine dF ?_;refine cV ?_;exact Zb (Ze 3) (Zb (eG eN (Ze 5) Zj) (Zb (bJ gU (bJ j5 (Ze 4) Zj) (Ze 1)) Zg))
           .exact gC
          .refine Zn ?_ ?_
           .refine dm 6 ?_ ?_
            .exact Bo.nd
            .refine ZsH ?_;refine yh ?_ ?_ ?_
             .exact aR
             .exact Zj
             .refine yh ?_ ?_ ?_
              .exact aR
              .exact Zj
              .exact yh aR Zj (yh aR Zj (yh aR Zj (yh aR Zj (yh aR Zj Zq3))))
           .refine cW ?_;exact dF (bJ qU (cV (Zb (Ze 3) Zg)) (vW v5 (Ze 5) Ac (qQ (Zp6 hu (Ze 6) (Ze 3)))))
theorem Zi5:dY ["cell","many"] ["cell","many"] (Zq Bh):=jM
theorem ZiV(A:dG K mg "_law_far" Bh ["cell","many"])(T:Txt K mg):cD P w K mg base 1 "_law_far" ["cell","many"] wz:=
  cD.of (N:=["cell","many"]) (k:=0) A Zi5 λf cdv A outer s H E hr=>by
    have hu:=j7 hr;unfold QS;refine cW ?_;refine dF ?_;refine eG ?_ ?_ ?_
    .exact eN
    .refine cV ?_;refine Zb ?_ ?_
     .exact Ze 1
     .refine Zb ?_ ?_
      .exact nW nZ Zj
      .refine Zb ?_ ?_
       .exact bJ qU (bJ qU (Ze 1) Zj) (bJ gU (bJ j5 (Ze 0) Zj) (bJ Jl Zj Zj))
       .refine Zb ?_ ?_
        .exact bJ ZpF (nW nZ Zj) (bJ gU (bJ j5 (Ze 0) Zj) (bJ Jl Zj Zj))
        .exact Zg
    .exact bJ gU (Ze 0) Zj
theorem ZhT:dY ["rows"] ["rows"] (Zq Bj):=jM
theorem Zie(A:dG K mg "_law_text" Bj ["rows"])(T:Txt K mg):cD P w K mg base 1 "_law_text" ["rows"] Ay:=
  cD.of (N:=["rows"]) (k:=0) A ZhT λf cdv A outer s H E hr=>by
    have hu:=j7 hr;unfold QT;refine cW ?_;refine dF ?_;refine Zf9 ?_ ?_
    .exact aR
    .refine Zb ?_ ?_
     .refine Ec (N':=["rows","row"]) ?_ ?_ ?_ ?_ (λC cl s H ex=>⟨?_,?_,?_⟩)
      .exact yd rfl (by kernel_rfl)
      .exact rfl
      .exact rfl
      .exact uf (Ze 0)
      .exact qR 1 ((show u5 (["rows","row"]:List aj)by decide +kernel))
      .exact Ai
      .refine Zf9 ?_ ?_
       .exact aR
       .refine Zb ?_ ?_
        .exact Ec (N':=["rows","row","part"]) (yd rfl (by kernel_rfl)) rfl rfl (uf (Ze 1)) (λC cl s H ex=>⟨(qR 2 ((show u5 (["rows","row","part"]:List aj)by decide +kernel))),Ai,(xY (T:="str") ZtD T.AgR ZqO (Zb (Ze 2) Zg))⟩)
        .exact Zg
     .exact Zg
theorem ZeB:dY ["rows","row"] ["rows"] (Zq Bk):=jM
theorem ZhY(A:dG K mg "_law_good" Bk ["rows"])(T:Txt K mg):cD P w K mg base 1 "_law_good" ["rows"] JX:=
  cD.of (N:=["rows","row"]) (k:=0) A ZeB λf cdv A outer s H E hr=>by
    have hu:=j7 hr;unfold JV;refine Zn ?_ ?_
    .refine Zmn ?_ ?_ ?_ ?_ ?_
     .exact rfl
     .exact rfl
     .exact uf (Ze 0)
     .exact qR 1 ZeB.nd
     .refine cW ?_;refine iJ ?_ ?_ ?_
      .refine CW.ct ?_;refine Jh ?_ ?_
       .exact gR ((Ju hu)) (eG eN (Ze 1) Zj) (Ab (Zb aR (Zb aR Zg)))
       .refine Jg ?_;refine CW.ct ?_;refine z_ ?_ ?_
        .exact gR Jm (eG eN (Ze 1) (nW nZ Zj)) Zj
        .exact DX (gR Ztn (eG eN (Ze 1) (nW nZ Zj)) (nY (id:="len") qW T.pU qX (Zb (Ze 0) Zg)))
      .exact cW (dF z9)
      .exact gC
    .refine cW ?_;refine dF ?_;refine vU ?_ ?_ ?_
     .exact(Ju hu)
     .exact eG eN (eG eN (Ze 0) (nW nZ Zj)) Zj
     .exact Ab (Zb aR (Zb aR Zg))
theorem wA:dY ["rows","found","caught","e","others"] ["rows"] (Zq Bl):=jM
theorem ZgH(A:dG K mg "_law_asked" Bl ["rows"])(T:Txt K mg)(XO:yD K mg aH bh bf aQ a_ aX bj bw aO iR iU)(Fd:o5 P w K mg base 3 "read_roll" ["text"] yu)(Ke:cD P w K mg base 1 "_law_text" ["rows"] Ay)(Kf:cD P w K mg base 1 "_law_good" ["rows"] JX):cD P w K mg base 4 "_law_asked" ["rows"] iQ:=
  cD.of (N:=["rows","found","caught","e","others"]) (k:=3) A wA λf cdv A outer s H E hr=>by
    have hu:=j7 hr;unfold Az;refine Zn ?_ ?_
    .exact dm 1 wA.nd vR
    .refine Zn ?_ ?_
     .exact dm 2 wA.nd vR
     .refine Zn ?_ ?_
      .refine ZqI (cs:=[[66,97,100,67,117,116],[66,97,100,71,105,118,101,110],[66,97,100,82,111,119],[78,111,68,105,115,112,117,116,101],[78,111,82,111,108,108],[78,111,84,105,109,101],[83,112,101,110,116],[85,110,102,105,116]]) (CE:=aH) 3 ?_ ?_ ?_ (λJB E'=>?_) (λA' E'=>?_)
       .exact wA.nd
       .exact XO.Bv
       .exact XO.AbY
       .exact uh (Zoi 1 wA.nd (Zkx (k:=3) (ps:=["text"]) Fd (hr.mono (by decide)) (Zb (jk (k:=1) (ps:=["rows"]) Ke (hr.mono (by decide)) (Zb (Ze 0) Zg)) Zg)))
       .exact cW (dm 2 wA.nd (Ze 3))
      .refine Zn ?_ ?_
       .refine iJ ?_ ?_ ?_
        .exact lY (jk (k:=1) (ps:=["rows"]) Kf (hr.mono (by decide)) (Zb (Ze 0) Zg))
        .refine cW ?_;refine dF ?_;refine vV ?_ ?_
         .exact vU PN (Ze 2) vR
         .refine vV ?_ ?_
          .exact ZqZ .tuple T.jN T.Fp (Ze 1)
          .refine DW ?_;refine vU ?_ ?_ ?_
           .exact(uc hu)
           .exact xY (T:="list") Zm7 T.Tc Zks (Zb (Ze 1) Zg)
           .exact Ec (N':=["rows","found","caught","e","others","row"]) (yd rfl (by kernel_rfl)) rfl rfl (uf (Ze 0)) (λC cl s H ex=>⟨(qR 5 ((show u5 (["rows","found","caught","e","others","row"]:List aj)by decide +kernel))),Ai,(xY (T:="tuple") Qi T.Fp Qj (Zb (Ze 5) Zg))⟩)
        .exact gC
       .refine Zn ?_ ?_
        .refine dm 4 ?_ ?_
         .exact wA.nd
         .refine cV ?_;refine Zb ?_ ?_
          .exact n8 (C:=bh) T.jN XO.RZ XO.AfJ (Ze 2)
          .exact Zb (n8 (C:=bf) T.jN XO.Rv XO.AdP (Ze 2)) (Zb (n8 (C:=a_) T.jN XO.Rr XO.AcE (Ze 2)) Zg)
        .refine Zn ?_ ?_
         .refine dm 4 ?_ ?_
          .exact wA.nd
          .refine bJ ?_ ?_ ?_
           .exact qU
           .exact Ze 4
           .refine cV ?_;refine Zb ?_ ?_
            .exact n8 (C:=bj) T.jN XO.R0 XO.AfI (Ze 2)
            .exact Zb (n8 (C:=bw) T.jN XO.R_ XO.AgA (Ze 2)) (Zb (n8 (C:=aO) T.jN XO.Ky XO.SJ (Ze 2)) Zg)
         .refine Zn ?_ ?_
          .refine iJ ?_ ?_ ?_
           .refine CW.ct ?_;exact z_ (lY (nY (id:="any") ((ZsU rfl)) T.AgP Zq9 (Zb (Ze 4) Zg))) (DX (lY (n8 (C:=aQ) T.jN XO.Kp XO.Sd (Ze 2))))
           .exact cW (dF z9)
           .exact gC
          .exact cW (dF (vV (n8 (C:=aX) T.jN XO.Ff XO.AfH (Ze 2)) (DW (Zmz (T:="ValueError") T.jN T.Ace Zfw XO.Acd (Ze 2)))))
theorem J1:dY ["made","one","unfit"] [] (Zq Bm):=jM
theorem Zhl(A:dG K mg "_law_made" Bm [])(T:Txt K mg)(XO:yD K mg aH bh bf aQ a_ aX bj bw aO iR iU):cD P w K mg base 3 "_law_made" [] A_:=
  cD.of (N:=["made","one","unfit"]) (k:=2) A J1 λf cdv A outer s H E hr=>by
    have hu:=j7 hr;unfold JZ;refine Zn ?_ ?_
    .refine dm 0 ?_ ?_
     .exact J1.nd
     .refine cV ?_;refine Zb ?_ ?_
      .exact Aw (C:=aX) XO.Kz XO.Ff (Zb aR Zg)
      .refine Zb ?_ ?_
       .exact Aw (C:=bh) XO.AfF XO.RZ (Zb aR Zg)
       .refine Zb ?_ ?_
        .exact Aw (C:=bj) XO.AfG XO.R0 (Zb aR Zg)
        .refine Zb ?_ ?_
         .exact Aw (C:=a_) XO.AcD XO.Rr (Zb aR Zg)
         .exact Zb (Aw (C:=bf) XO.AdO XO.Rv (Zb aR Zg)) (Zb (Aw (C:=bw) XO.Agy XO.R_ (Zb aR Zg)) Zg)
    .refine Zn ?_ ?_
     .refine Zmn ?_ ?_ ?_ ?_ ?_
      .exact rfl
      .exact rfl
      .exact uf (Ze 0)
      .exact qR 1 J1.nd
      .refine cW ?_;refine iJ ?_ ?_ ?_
       .refine CW.ct ?_;refine z_ ?_ ?_
        .exact Aa (lY (n8 (C:=aH) T.jN XO.Bv XO.Ro (Ze 1)))
        .exact z_ (lY (n8 (C:=aQ) T.jN XO.Kp XO.Sd (Ze 1))) (DX (lY (n8 (C:=aO) T.jN XO.Ky XO.SJ (Ze 1))))
       .exact cW (dF z9)
       .exact gC
     .refine Zn ?_ ?_
      .exact dm 2 J1.nd (Zsk (C:=aO) (fI:=iU) (fn:="fault") (CL:=aH) (qual:="Unfit.__init__") (st:=yC) (ps:=["self","fault"]) (P:=(JM [115,116,101,112] 5)) (ok:=JQ K ⟨([115,116,101,112]:List Nat).toArray⟩ 5) XO.Fo (Zll XO) ZtG (hr.mono (by decide)) XO.Ky (Zb (Ab (Zb aR (Zb Zj Zg))) Zg))
      .refine cW ?_;refine dF ?_;refine vV ?_ ?_
       .exact n8 (C:=aH) T.jN XO.Bv XO.Ro (Ze 2)
       .exact DW (vU ((uc hu)) (Zq6 (C:=aO) (c:=[85,110,102,105,116]) (m:=[102,97,117,108,116]) XO.Agz (Ze 2)) (Ab (Zb aR (Zb Zj Zg))))
theorem l_:dY ["script","first","second","many","rows","spoiled","leading","at","row","last"] ["script"] (Zq um):=jM
theorem Zqr{f:Yl}{fd:fC}(F:nC K "law" "law" um f fd)(T:Txt K mg)(E_:cD P w K mg base 1 "_law_cell_at" ["script","k"] yw)(Km:cD P w K mg base 1 "_law_row" ["cell","many"] q_)(Fe:cD P w K mg base 1 "_law_far" ["cell","many"] wz)(wC:cD P w K mg base 4 "_law_asked" ["rows"] iQ)(Kg:cD P w K mg base 3 "_law_made" [] A_):dN P w K mg base nA 5 f fd ["script"] (xZ K 1 ZkF):=
  fn3 (N:=["script","first","second","many","rows","spoiled","leading","at","row","last"]) (k:=4) F l_ λcdv A outer s H E hr=>by
    have hu:=j7 hr;unfold QV;refine Zn ?_ ?_
    .exact dm 1 l_.nd (jk (k:=1) (ps:=["script","k"]) E_ (hr.mono (by decide)) (Zb (Ze 0) (Zb Zj Zg)))
    .refine Zn ?_ ?_
     .exact dm 2 l_.nd (jk (k:=1) (ps:=["script","k"]) E_ (hr.mono (by decide)) (Zb (Ze 0) (Zb Zj Zg)))
     .refine Zn ?_ ?_
      .refine dm 3 ?_ ?_
       .exact l_.nd
       .exact bJ qU (nY (id:="len") qW T.pU qX (Zb (vW v5 (Ze 0) (qQ Zj) (qQ Zj)) Zg)) Zj
      .refine Zn ?_ ?_
       .refine dm 4 ?_ ?_
        .exact l_.nd
        .refine Ec (N':=["script","first","second","many","rows","spoiled","leading","at","row","last","cell"]) ?_ ?_ ?_ ?_ (λC cl s H ex=>⟨?_,?_,?_⟩)
         .exact yd rfl (by kernel_rfl)
         .exact rfl
         .exact rfl
         .exact uf (vW v5 (Ze 0) (qQ Zj) (qQ Zj))
         .exact qR 10 ((show u5 (["script","first","second","many","rows","spoiled","leading","at","row","last","cell"]:List aj)by decide +kernel))
         .exact Ai
         .exact jk (k:=1) (ps:=["cell","many"]) Km (hr.mono (by decide)) (Zb (Ze 10) (Zb (Ze 3) Zg))
       .refine Zn ?_ ?_
        .refine Px ?_;refine Qh ?_ ?_
         .exact Ze 4
         .refine Zb ?_ ?_
          .refine eG ?_ ?_ ?_
           .exact eN
           .refine cV ?_;exact Zb (cV (Zb aR Zg)) (Zb (cV (Zb aR (Zb (bJ gU (Ze 2) (Ze 3)) Zg))) Zg)
           .exact bJ gU (Ze 1) Zj
          .exact Zg
        .refine Zn ?_ ?_
         .exact iJ (Aa (lY (jk (k:=4) (ps:=["rows"]) wC (hr.mono (by decide)) (Zb (Ze 4) Zg)))) (cW (dF z9)) gC
         .refine Zn ?_ ?_
          .refine Ziv (N':=["script","first","second","many","rows","spoiled","leading","at",".row","last","row"]) 5 ?_ ?_ ?_ ?_ ?_ (λC cl s H ex=>⟨?_,?_,?_⟩)
           .exact yd rfl (by kernel_rfl)
           .exact rfl
           .exact rfl
           .exact l_.nd
           .exact uf (Ze 4)
           .exact qR 10 ((show u5 (["script","first","second","many","rows","spoiled","leading","at",".row","last","row"]:List aj)by decide +kernel))
           .exact Ai
           .exact xY (T:="list") Zm7 T.Tc Zks (Zb (Ze 10) Zg)
          .refine Zn ?_ ?_
           .refine Ziv (N':=["script","first","second","many","rows","spoiled","leading","at","row","last","k"]) 6 ?_ ?_ ?_ ?_ ?_ (λC cl s H ex=>⟨?_,?_,?_⟩)
            .exact yd rfl (by kernel_rfl)
            .exact rfl
            .exact rfl
            .exact l_.nd
            .exact Zlp T.AgB (Ze 3)
            .exact qR 10 ((show u5 (["script","first","second","many","rows","spoiled","leading","at","row","last","k"]:List aj)by decide +kernel))
            .exact ZoA (gR ((Ju hu)) (eG eN (eG eN (Ze 4) (Ze 10)) Zj) (Ab (Zb aR (Zb aR Zg))))
            .exact Ze 10
           .refine Zn ?_ ?_
            .refine iJ ?_ ?_ ?_
             .refine CW.ct ?_;refine Jh ?_ ?_
              .exact gR PL (bJ gU (bJ j5 (Ze 1) Zj) Zj) Zj
              .exact Jg (gR PL (nY (id:="len") qW T.pU qX (Zb (Ze 6) Zg)) Zj)
             .refine Zn ?_ ?_
              .exact dm 7 l_.nd (eG eN (Ze 6) (bJ gU (Ze 2) (nY (id:="len") qW T.pU qX (Zb (Ze 6) Zg))))
              .refine cW ?_;refine Jv ?_ ?_ ?_
               .exact eG eN (Ze 5) (Ze 7)
               .exact nW nZ Zj
               .exact jk (k:=1) (ps:=["cell","many"]) Fe (hr.mono (by decide)) (Zb (bJ j5 (Ze 1) Zj) (Zb (Ze 3) Zg))
             .exact gC
            .refine Zn ?_ ?_
             .refine iJ ?_ ?_ ?_
              .exact gR ((uc hu)) (bJ gU (bJ j5 (Ze 1) Zj) Zj) Zj
              .refine Zn ?_ ?_
               .exact dm 7 l_.nd (bJ gU (Ze 2) (Ze 3))
               .refine Zn ?_ ?_
                .refine dm 8 ?_ ?_
                 .exact l_.nd
                 .refine eG ?_ ?_ ?_
                  .exact eN
                  .refine cV ?_;refine Zb ?_ ?_
                   .exact cV (Zb aR (Zb Zj Zg))
                   .exact Zb (cV (Zb aR (Zb (bJ gU (bJ j5 (Ze 2) (Ze 3)) Zj) (Zb Zj Zg)))) Zg
                  .exact bJ gU (bJ j5 (Ze 1) Zj) Zj
                .refine Zn ?_ ?_
                 .refine Jv ?_ ?_ ?_
                  .exact Ze 8
                  .exact nW nZ Zj
                  .exact jk (k:=1) (ps:=["cell","many"]) Fe (hr.mono (by decide)) (Zb (bJ j5 (Ze 1) Zj) (Zb (bJ qU (Ze 3) Zj) Zg))
                 .refine cW ?_;refine dm 5 ?_ ?_
                  .exact l_.nd
                  .refine bJ ?_ ?_ ?_
                   .exact qU
                   .exact bJ qU (vW v5 (Ze 5) Ac (qQ (Ze 7))) (cV (Zb (Ze 8) Zg))
                   .exact vW v5 (Ze 5) (qQ (Ze 7)) Ac
              .exact gC
             .refine Zn ?_ ?_
              .exact iJ (Aa (lY (jk (k:=4) (ps:=["rows"]) wC (hr.mono (by decide)) (Zb (Ze 5) Zg)))) (cW (dF z9)) gC
              .refine Zn ?_ ?_
               .refine dm 9 ?_ ?_
                .exact l_.nd
                .refine cV ?_;refine Zb ?_ ?_
                 .exact cV (Zb aR (Zb Zj (Zb Zj Zg)))
                 .refine Zb ?_ ?_
                  .exact cV (Zb aR (Zb Zj (Zb Zj (Zb Zj Zg))))
                  .refine Zb ?_ ?_
                   .exact cV (Zb aR (Zb Zj (Zb Zj (Zb Zj Zg))))
                   .refine Zb ?_ ?_
                    .exact cV (Zb aR (Zb Zj (Zb Zj (Zb Zj Zg))))
                    .refine Zb ?_ ?_
                     .exact cV (Zb aR (Zb Zj (Zb Zj Zg)))
                     .exact Zb (cV (Zb aR (Zb Zj (Zb Zj Zg)))) Zg
               .refine Zn ?_ ?_
                .refine dm 9 ?_ ?_
                 .exact l_.nd
                 .refine bJ ?_ ?_ ?_
                  .exact qU
                  .exact Ze 9
                  .refine cV ?_;refine Zb ?_ ?_
                   .exact cV (Zb aR (Zb Zj Zg))
                   .refine Zb ?_ ?_
                    .exact cV (Zb aR (Zb Zj (Zb Zj Zg)))
                    .exact Zb (cV (Zb aR (Zb Zj Zg))) (Zb (cV (Zb aR Zg)) Zg)
                .refine Zn ?_ ?_
                 .exact Jv (Ze 4) (nW nZ Zj) (eG eN (Ze 9) (bJ gU (bJ j5 (Ze 2) Zj) Zj))
                 .refine Zn ?_ ?_
                  .exact Jv (Ze 5) (nW nZ Zj) (eG eN (Ze 4) (nW nZ Zj))
                  .refine cW ?_;refine dF ?_;refine vV ?_ ?_
                   .exact jk (k:=4) (ps:=["rows"]) wC (hr.mono (by decide)) (Zb (Ze 4) Zg)
                   .refine vV ?_ ?_
                    .exact jk (k:=4) (ps:=["rows"]) wC (hr.mono (by decide)) (Zb (Ze 5) Zg)
                    .refine vV ?_ ?_
                     .exact jk (k:=4) (ps:=["rows"]) wC (hr.mono (by decide)) (Zb (cV (Zb (eG eN (Ze 4) (nW nZ Zj)) Zg)) Zg)
                     .exact DW (ZoS (k:=3) Kg (hr.mono (by decide)))
end
end Law
set_option maxHeartbeats 200000
namespace Law
open L3
theorem Zq2(c:Nat):∀(x y a b:List Nat),c∉x->c∉y->x++c::a=y++c::b->x=y/\a=b:=by
 intro x
 induction x with
 |nil=>
  intro y a b _ hy h;cases y with
  |nil=>exact⟨rfl,(oJ h).2⟩|cons q y=>exact absurd (oJ h).1 λe=>hy (e▸Y0 ..)
 | cons p x ih=>
  intro y a b hx hy h;cases y with
  |nil=>exact absurd (oJ h).1 λe=>hx (e▸Y0 ..)|cons q y=>obtain⟨e1,e2⟩:=ih y a b (λz=>hx (Yx _ z)) (λz=>hy (Yx _ z)) (oJ h).2;exact⟨by rw[(oJ h).1,e1],e2⟩
theorem Bp(s x y:List Nat)(r:List (List Nat)):glue s (x::y::r)=x++(s++glue s (y::r)):=by show x++s++glue s (y::r)=_;rw[lH]
theorem Znw(c:Nat):∀(ts us:List (List Nat)),ts≠[]->us≠[]->(∀t∈ts,c∉t)->(∀t∈us,c∉t)->glue [c] ts=glue [c] us->ts=us:=by
 intro ts
 induction ts with
 |nil=>intro us h;exact absurd rfl h|cons t ts ih=>
  intro us _ hu ft fu h;cases us with
  |nil=>exact absurd rfl hu|cons u us=>
   have ht:=ft t (Y0 ..);have hu':=fu u (Y0 ..);cases ts with
   | nil=>
    cases us with
    |nil=>rw[show t=u from h]|cons v us=>rw[Bp]at h;refine absurd (show c∈t from ?_) ht;rw[show t=_ from h];exact mW _ (Y0 ..)
   | cons w ts=>
    cases us with
    |nil=>rw[Bp]at h;refine absurd (show c∈u from ?_) hu';rw[show u=_ from h.symm];exact mW _ (Y0 ..)|cons v us=>rw[Bp,Bp]at h;obtain⟨e1,e2⟩:=Zq2 c t u _ _ ht hu' h;rw[e1,ih (v::us) (λz=>nomatch z) (λz=>nomatch z) (λq hq=>ft q (Yx _ hq)) (λq hq=>fu q (Yx _ hq)) e2]
theorem ZfX(x:List Nat)(c:Nat):glue [c] (nO x [c])=x:=by
 have h:=PySem.StrLaws.join_split (⟨x.toArray⟩:PySem.Str) (⟨([c]:List Nat).toArray⟩);have e:(Wy (⟨x.toArray⟩:PySem.Str) ⟨([c]:List Nat).toArray⟩)=(nO x [c]).map λt=>(⟨t.toArray⟩:PySem.Str):=by unfold nO;rw[tu];exact(List.map_id _).symm.trans (Ly λt _=>rfl)
 rw[e,Qn]at h;have q:=congrArg (λs:PySem.Str=>s.cps.toList) h;simpa using q
theorem Zfp(c:Nat)(ts:List (List Nat))(h:ts≠[])(hf:∀t∈ts,c∉t):nO (glue [c] ts) [c]=ts:=by
 have hs:∀t∈nO (glue [c] ts) [c],c∉t:=by intro t ht;obtain⟨p,hp,rfl⟩:=jb.mp ht;exact PySem.StrLaws.split_free _ c p hp
 refine Znw c _ _ (λz=>?_) h hs hf (ZfX _ c);have q:=ZfX (glue [c] ts) c;unfold nO at z;have z1:=Gu.mp z;have z2:=PyProof.Rows.split_pos (⟨(glue [c] ts).toArray⟩:PySem.Str) ⟨([c]:List Nat).toArray⟩;rw[z1]at z2;exact absurd z2 (by decide)
noncomputable def cg(n:Nat):List Nat:=(GQ 10 n).map Nk
theorem Zi8:∀d:Nat,d<10->(Nat.digitChar d).toNat=48+d:=by decide
variable{n:Nat}
theorem yF(h:n<10):cg n=[48+n]:=by unfold cg;rw[Vh h,Yy,sZ,Zi8 n h]
theorem Er(h:10<=n):cg n=cg (n / 10)++[48+n % 10]:=by have hm:n % 10<10:=Nat.mod_lt n (by decide);have t:GQ 10 (n / 10)++GQ 10 (n % 10)=GQ 10 (10*(n / 10)+n % 10):=Nat.toDigits_append_toDigits (by decide) (by omega) hm;rw[Nat.div_add_mod]at t;unfold cg;rw[←t,lJ,Vh hm,Yy,sZ,Zi8 _ hm]
theorem Bq(n:Nat):∀c∈cg n,48<=c/\c<=57:=by
 induction n using Ma with
 | _ n ih=>
  by_cases h:n<10
  .rw[yF h];intro c hc;rw[wY.mp hc];exact⟨p_ _ _,lA 1 0x392b0302bc0a1b011 T1 h⟩
  .rw[Er (jc h)];intro c hc;rcases u0.mp hc with hc|hc
   .exact ih (n / 10) (GK λz=>lB 3 0x6010ad01a1b0511002 T1 z h (Mf _ _)) c hc
   .rw[wY.mp hc];exact⟨p_ _ _,lA 1 0x392b0302bc0a1b011 T1 (Nat.mod_lt _ (by decide))⟩
theorem J2(n:Nat):cg n≠[]:=by
 by_cases h:n<10
 .rw[yF h];exactλz=>nomatch z
 .rw[Er (jc h)];exactλz=>absurd (List.append_eq_nil_iff.mp z).2 (λz=>nomatch z)
theorem Es(k:Nat):∀n:Nat,n<10^(k+1)->(cg n).length<=k+1:=by
 induction k with
 |zero=>intro n h;rw[yF (by simpa using h)];exact Yq _|succ k ih=>
  intro n h;by_cases q:n<10
  .rw[yF q];exact Vl 1 _
  .rw[Er (jc q),Y4,mX];have:=ih (n / 10) (by rw[Nat.pow_succ]at h;omega);exact lB 1 0xaa1cca0c0a1c001 T1 this
theorem ZlR(n:Nat)(h:0<n):∀r,cg n≠48::r:=by
 induction n using Ma with
 | _ n ih=>
  intro r z;by_cases q:n<10
  .rw[yF q]at z;have:=(oJ z).1;exact lA 2 0x60e11302b0302bc21 T1 this h
  .rw[Er (jc q)]at z;cases e:cg (n / 10)with
   |nil=>exact J2 _ e|cons c l=>rw[e]at z;have:=(oJ z).1;subst this;exact ih (n / 10) (GK λz=>lB 3 0x6010ad01a1b0511002 T1 z q (Mf _ _)) (by omega) l e
theorem Zis(n:Nat):Cw (cg n)=n:=by
 induction n using Ma with
 | _ n ih=>
  by_cases q:n<10
  .rw[yF q];show 0*10+(48+n-48)=n;exact eZ (lB 1 0x10a1b00dc01302bc302b0c21 T1 (p8 (p_ _ _))) (lB 1 0x1a1b00dc00302b1c0302bc01 T1 (qp _ _))
  .rw[Er (jc q)];have e:Cw (cg (n / 10)++[48+n % 10])=Cw (cg (n / 10))*10+(48+n % 10-48):=by
    unfold Cw;rw[List.foldl_append];rfl
   rw[e,ih (n / 10) (GK λz=>lB 3 0x6010ad01a1b0511002 T1 z q (Mf _ _))];omega
theorem Zi2(n:Nat):Zi (n:Int)=cg n:=by unfold Zi cg;rw[VN];show(Nat.repr n).toList.map Nk=_;rw[Vm]
theorem ZiY(n:Nat):Zi (Int.negSucc n)=45::cg (n+1):=by unfold Zi cg;rw[VN];show("-" ++Nat.repr (n+1)).toList.map Nk=_;rw[String.toList_append,lJ,Vm];rfl
theorem J3(i:Int)(h:i.natAbs<10^60):FZ ⟨(Zi i).toArray⟩=Ya i/\(Zi i).length<=61/\∀c∈Zi i,45<=c:=by
 cases i with
 |ofNat n=>have hl:=Es 59 n h;have e:Zi (Int.ofNat n)=cg n:=Zi2 n;rw[e];refine⟨?_,Nat.le_succ_of_le hl,λc hc=>Ys (by decide) (Bq n c hc).1⟩;have q:=PySem.intText_digits (x:=⟨(cg n).toArray⟩) (Bq n) (J2 n) (Ys (show(cg n).toArray.size<=60 by simpa using hl) (by decide));rw[q];show Ya ((Cw (cg n):Nat):Int)=_;rw[Zis];rfl|negSucc n=>
  have hl:=Es 59 (n+1) h;rw[ZiY];refine⟨?_,GP hl,λc hc=>?_⟩
  .have q:=PySem.intText_neg (x:=⟨(45::cg (n+1)).toArray⟩) (cs:=cg (n+1)) rfl (Bq _) (J2 _) (Ys (show(45::cg (n+1)).toArray.size<=61 by simpa using hl) (by decide));rw[q,Zis];rfl
  .rcases Y5.mp hc with e|hc
   .exact w6 e.symm
   .exact Ys (by decide) (Bq _ c hc).1
theorem Oe(n d:Nat):au n d Yi=d:=rfl
theorem Dp(n d k:Nat):au n d (Ya (k:Int))=fG k n:=by have h:¬((k:Int)<0):=(λz=>iN [_] [] 1 7211153 T1 z);simp only[au,if_neg h,G7]
variable{α:Type}
theorem J4(w:List α)(k:Nat):cutD w (Ya (k:Int)) Yi=w.drop k:=by
 unfold cutD;rw[Dp,Oe];by_cases h:k<=w.length
 .rw[L_ h,Gs (by simp)]
 .rw[LR (by exact lB 1 1052737 T1 h),Uy (Yq _),Uy (by exact lB 1 1052737 T1 h)];simp
theorem ZmB(w:List α)(k:Nat):cutD w Yi (Ya (k:Int))=w.take k:=by
 unfold cutD;rw[Dp,Oe];by_cases h:k<=w.length
 .rw[L_ h];simp
 .rw[LR (by exact lB 1 1052737 T1 h),Nat.sub_zero,Ve,Gs (Yq _),Gs (by exact lB 1 1052737 T1 h)]
theorem j9(x:Int)(m:Nat)(h:0<m):∃a:Nat,x % (m:Int)=a/\a<m:=by have h1:=Mw x (b:=(m:Int)) (by exactλz=>iN [_] [] 2 416093702305 T1 z h);have h2:=Mu x (b:=(m:Int)) (by exact iN [_] [] 1 149491217 T1 h);exact⟨(x % (m:Int)).toNat,(u9 h1).symm,by exact iN [_,_] [_] 2 18698308976785 T1 h2 (u9 h1)⟩
variable{i:Int}{M:Store}
theorem mj{j:Int}(h:0<j/\j<1073741824):cF (.int i) (.int j) M= .ok (.int (i / j)) M:=by simp only[ZD,if_pos h]
variable{ds:List D}{M':Store}{env:Zt}
theorem uo{g:bW}(h:g env M= .ok ds M')(hl:decide (ds.length<=100)=true):aB g env M= .ok (.ref M'.length) (M'++[.lst ds]):=by have z:ds.length<=SZ:=Ys (of_decide_eq_true hl) (by decide);simp only[aB,h,R3.bind,if_pos z,alloc]
variable{xs:List D}{d:D}
theorem Zp5{o t:E3}(ho:o env M= .ok (.ref n) M)(hM:M[n]?=Ya (.lst xs))(ht:t env M= .ok d M')(hM':M'[n]?=Ya (.lst xs))(hl:xs.length<SZ):
  fL (cL nH nG o (Za t (Zd))) env M= .nx env (M'.set n (.lst (xs++[d]))):=by
 have e:cL nH nG o (Za t (Zd)) env M= .ok .non (M'.set n (.lst (xs++[d]))):=by simp only[cL,ho,R3.bind,Iw,hM,Za,ht,Zd,Iv,hM',if_pos hl,if_true]
 rw[fL,e]
variable{f:E3}
theorem J5{op:D->D->D->Store->R3 D}{g h:E3}{M M1 M2 M3 M4:Store}{a b c:D}(h1:f env M= .ok a M1)(h2:g env M1= .ok b M2)(h3:h env M2= .ok c M3)(h4:op a b c M3= .ok d M4):e3 op f g h env M= .ok d M4:=by simp only[e3,h1,h2,h3,h4,R3.bind]
theorem Ziz(s:Nat)(b:Nat):∀ts:List (List Nat),(∀t∈ts,t.length<=b)->jZ [s] ts<=ts.length*(b+1)/\(glue [s] ts).length<=ts.length*(b+1):=by
 intro ts
 induction ts with
 |nil=>intro _;exact⟨by simp[jZ],by simp[glue]⟩|cons t ts ih=>
  intro h;have ht:=h t (Y0 ..);obtain⟨i1,i2⟩:=ih λq hq=>h q (Yx _ hq);have e1:jZ [s] (t::ts)=t.length+1+jZ [s] ts:=by simp[jZ]
  have e3:(ts.length+1)*(b+1)=ts.length*(b+1)+(b+1):=Nat.succ_mul ..;rw[e1,iC,e3];refine⟨lD 2 0xa3c1c0a2cc032011001 T1 i1 ht,?_⟩;cases ts with
  |nil=>show t.length<=_;exact lC 1 0xa1c2c001001 T1 ht|cons u ts=>rw[Bp,Y4,Y4];show t.length+(1+_)<=_;exact lD 2 0xa3c1c0ac2c032011001 T1 i2 ht
theorem strs_map:∀ts:List (List Nat),jj (ts.map D.str)=Ya ts
 |[]=>rfl|t::ts=>by show(jj (ts.map D.str)).map _=_;rw[strs_map ts];rfl
theorem ZkS{s:Nat}{ts:List (List Nat)}(h:M[n]?=Ya (.lst (ts.map D.str)))(hz:jZ [s] ts<=SZ):vK (.str [s]) [.ref n] M= .ok (.str (glue [s] ts)) M:=by simp only[Z2,h,strs_map,if_pos hz]
theorem yG{m:D->List D->Store->R3 D}{o g:E3}{M M1 M2:Store}{x:List Nat}{r:D}(h1:o env M= .ok (.str x) M)(h2:g env M= .ok d M1)(h3:m (.str x) [d] M1= .ok r M2):cL fY m o (Za g Zd) env M= .ok r M2:=by simp only[cL,h1,R3.bind,ZrO,if_true,Za,h2,Zd,h3]
theorem ZnZ(h:i.natAbs<10^60):(Zi i).length<=61:=(J3 i h).2.1
theorem Zql(h:i.natAbs<10^60):i.natAbs.log2<1920:=by
 by_cases z:i.natAbs=0
 .rw[z];decide
 .exact(Nat.log2_lt z).mpr (tE h (by decide +kernel))
noncomputable abbrev yH:List Nat:=[48,49,50,51,52,53,54,55,56,57]
theorem in_str(c:Nat)(y:List Nat)(M:Store):fJ (.str [c]) (.str y) M= .ok (.bl (decide (c∈y))) M:=rfl
theorem all_map{p:α->Bool}{l:List α}(h:M[n]?=Ya (.lst (l.map λc=>D.bl (p c)))):Dy [.ref n] M= .ok (.bl (l.all p)) M:=by
 have a:∀l:List α,(l.map λc=>D.bl (p c)).all vG=true/\(l.map λc=>D.bl (p c)).all oN=l.all p:=by
  intro l
  induction l with
  |nil=>exact⟨rfl,rfl⟩|cons x l ih=>exact⟨by simp only[Yy,mY,vG,ih.1,zf],by rw[Yy,mY,mY,ih.2];cases p x<;>rfl⟩
 simp only[zU,h,allB,(a l).1,(a l).2,if_true]
theorem ZjC{w fs:List Nat}(h1:1<=fs.length)(h2:fs.length<=60)(h3:∀r,fs≠48::r):
  (Zw (bD (gA (e2 jY (bB cH (Za (Zc 1) (Zd))) (eC (.int 1))) (e2 nF (bB cH (Za (Zc 1) (Zd))) (o_))) (bG (eC (.bl false))) (bT)) (Zw (bD (cL fY tZ (Zc 1) (Za (eC (.str [48])) (Zd))) (bG (e2 cQ (Zc 0) (eC (.str [48])))) (bT)) (bG (bB Dy (Za (dO (cN (Zc 1)) 1 (cM 2) [] (e2 fJ (Zc 2) (uD))) (Zd)))))) [Ya (.str w),Ya (.str fs)] M= .rt (.bl (fs.all λc=>decide (c∈yH))) (M++[.lst (fs.map λc=>D.bl (decide (c∈yH)))]):=by
 have hz:fs.length<=SZ:=Ys h2 (by decide);have ln:(bB cH (Za (Zc 1) (Zd))) [Ya (.str w),Ya (.str fs)] M= .ok (.int fs.length) M:=gP (a:=.str fs) rfl (by simp only[Io,Ip,Ir,vC,if_pos hz]);have c1:(gA (e2 jY (bB cH (Za (Zc 1) (Zd))) (eC (.int 1))) (e2 nF (bB cH (Za (Zc 1) (Zd))) (o_))) [Ya (.str w),Ya (.str fs)] M= .ok (.bl false) M:=by rw[zZ (M1:=M) (Zm ln rfl (by simp only[zP];rw[decide_eq_false (by exactλz=>iN [_] [] 2 415002921105 T1 z h1)]))];exact Zm ln (g:=o_) (b:=.int 60) rfl (by simp only[ZG];rw[decide_eq_false (by exactλz=>iN [_] [] 2 0x63c2b001083c2b91 T1 z h2)])
 have c2:(cL fY tZ (Zc 1) (Za (eC (.str [48])) (Zd))) [Ya (.str w),Ya (.str fs)] M= .ok (.bl false) M:=by
  refine yG (d:=.str [48]) rfl rfl ?_;cases fs with
  |nil=>exact absurd h1 (by decide)|cons c r=>
   have q:¬48=c:=λe=>h3 r (by rw[e]);have e:([48]:List Nat).isPrefixOf (c::r)=false:=by show((48==c)&&Vd [] r)=false;rw[beq_eq_false_iff_ne.mpr q];rfl
   simp only[Iu];rw[if_pos ⟨hz,by decide⟩,e]
 rw[Zy (nJ c1),Zy (nJ c2)];have hi:(cN (Zc 1)) [Ya (.str w),Ya (.str fs)] M= .ok ⟨fs.map (λc=>D.str [c]),Yi⟩ M:=by simp only[cN,Zc,sW,jQ,R3.bind,if_pos hz]
 have lc:=ZX (h:=λc=>D.bl (decide (c∈yH))) (own:=1) (i:=2) (elt:=(e2 fJ (Zc 2) (uD))) hi (λn z=>nomatch z)
  (λc hc M'=>Zm (a:=.str [c]) (b:=.str yH) rfl rfl (in_str c yH M')) (Ys h2 (by decide))
 exact lV (gP lc (all_map (Zz _ _ _)))
theorem ZrT{c:Nat}(h:48<=c/\c<=57):c∈yH:=(List.mem_range'_1:c∈List.range' 48 10↔_).mpr ⟨h.1,Nat.lt_succ_of_le h.2⟩
theorem Znr(h:i.natAbs<10^60)(M:Store):wk [.str (Zi i)] M= .ok (.bl true) M:=by
 have go:∀(n:Nat) (w:List Nat),0<n->n<10^60->(vy (cL fY tZ (Zc 0) (Za (eC (.str [45])) (Zd))) (cG (Zc 0) (b_ (eC (.int 1))) (eE)) (Zc 0)) [Ya (.str w),Yi] M= .ok (.str (cg n)) M->wk [.str w] M= .ok (.bl true) M:=λn w h0 h1 hf=>by
  refine Rt.pure (G:=[.lst ((cg n).map λc=>D.bl (decide (c∈yH)))]) (env:=[Ya (.str w),Yi]) ?_ rfl;unfold JR;rw[Zy (eF hf)];refine(ZjC ?_ (Es 59 n h1) (ZlR n h0)).trans (by rw[jT.mpr λc hc=>decide_eq_true (ZrT (Bq n c hc))]);cases e:cg n with
  |nil=>exact absurd e (J2 n)|cons _ _=>exact Vl 1 _
 cases i with
 | ofNat n=>
  have e:Zi (Int.ofNat n)=cg n:=Zi2 n;have hp:(vy (cL fY tZ (Zc 0) (Za (eC (.str [45])) (Zd))) (cG (Zc 0) (b_ (eC (.int 1))) (eE)) (Zc 0)) [Ya (.str (cg n)),Yi] M= .ok (.str (cg n)) M:=by
   rw[Zs6 (M1:=M)]
   .rfl
   .refine yG (d:=.str [45]) rfl rfl ?_;have hl:=Es 59 n h;have e:([45]:List Nat).isPrefixOf (cg n)=false:=by
     cases q:cg n with
     |nil=>rfl|cons c r=>have qc:=Bq n c (by rw[q];exact Y0 ..);show((45==c)&&Vd [] r)=false;rw[beq_eq_false_iff_ne.mpr (by exactλz=>lA 2 0x60302b0102d2b31 T1 z qc.1)];rfl
    simp only[Iu];rw[if_pos ⟨Ys hl (by decide),by decide⟩,e]
  rw[e];by_cases z:n=0
  .subst z;refine Rt.pure (G:=[]) (env:=[Ya (.str (cg 0)),Yi]) ?_ rfl;rw[gW];unfold JR;rw[Zy (eF hp),yF (by decide)];simp[Zw,bD,bG,bT,o_]
  .exact go n _ (Nat.pos_of_ne_zero z) h hp
 | negSucc n=>
  rw[ZiY];have hl:=Es 59 (n+1) h;refine go (n+1) _ (Nat.succ_pos n) h ?_;rw[Zs5 (M1:=M)]
  .have e:cutD (45::cg (n+1)) (Ya 1) Yi=cg (n+1):=J4 (45::cg (n+1)) 1;have hz:(45::cg (n+1)).length<=SZ:=Ys (GP hl) (by decide);simp only[cG,Zc,b_,eE,eC,R3.bind,jQ,qG,qH,qI,qJ,if_pos hz,e]
  .refine yG (d:=.str [45]) rfl rfl ?_;have hz:(45::cg (n+1)).length<=SZ:=Ys (GP hl) (by decide);simp only[Iu];rw[if_pos ⟨hz,by decide⟩];rfl
noncomputable def Br(nm:List Nat)(is:List Int):D:=.tup (.str nm::is.map D.int)
noncomputable def j_(nm:List Nat)(is:List Int):List Nat:=glue [32] (nm::is.map Zi)
noncomputable abbrev bx:List Nat:=[98,111,120]
noncomputable abbrev ou:List Nat:=[114,111,119]
structure gD(nm:List Nat)(is:List Int)(ks:List (List Nat)):Prop where
 tab:tabAt nm jn=Ya ks
 len:ks.length=is.length
 few:is.length<=3/\nm.length<=4
 abc:∀c∈nm,97<=c
 num:∀n∈is,n.natAbs<10^60
 box:∀(j:Nat) n,ks[j]?=Ya bx->is[j]?=Ya n->0<=n/\n<8
variable{is:List Int}
theorem Zmt{nm:List Nat}(hn:nm.length<=4)(h:∀n∈is,n.natAbs<10^60):∀t∈nm::is.map Zi,t.length<=61:=by
 intro t ht;rcases Y5.mp ht with e|ht
 .rw[e];exact Ys hn (by decide)
 .obtain⟨i,hi,rfl⟩:=jb.mp ht;exact ZnZ (h i hi)
noncomputable def strOf:D->D
 | .int i=>.str (Zi i)|d=>d
theorem ZmP(nm:List Nat)(is:List Int):(D.str nm::is.map D.int).map strOf=(nm::is.map Zi).map D.str:=by simp[strOf]
theorem QW{nm:List Nat}(hl:is.length<=3)(hn:nm.length<=4)(h:∀n∈is,n.natAbs<10^60):jZ [32] (nm::is.map Zi)<=248/\(j_ nm is).length<=248:=by
 obtain⟨a,b⟩:=Ziz 32 61 _ (Zmt hn h);have e:(nm::is.map Zi).length*(61+1)<=248:=by rw[iC,Yn];omega
 exact⟨Ys a e,Ys b e⟩
variable{ks:List (List Nat)}
theorem zip_get(hl:ks.length=is.length){i:Nat}(h:(g_ (ks.map D.str) (is.map λn=>D.str (Zi n)))[i]?=Ya d):∃k n,ks[i]?=Ya k/\is[i]?=Ya n/\d= .tup [.str k,.str (Zi n)]:=by
 rw[Pj,gn,gn]at h;cases hk:ks[i]? with
 |none=>rw[hk]at h;cases h|some k=>
  cases hn:is[i]? with
  |none=>rw[hk,hn]at h;cases h|some n=>rw[hk,hn]at h;cases h;exact⟨k,n,rfl,rfl,rfl⟩
theorem ZgS(i m:Int)(M:Store):lZ [.int i,.int m] M= .ok (.bl (decide (0<=i/\i<m))) M:=by
 refine Rt.pure (G:=[]) (env:=[Ya (.int i),Ya (.int m)]) ?_ rfl;rw[gW];unfold QM;refine lV ?_;by_cases h:0<=i
 .rw[lW (M1:=M) (Zm rfl rfl (by simp only[Ov,decide_eq_true h]))];refine Zm rfl rfl ?_;simp only[zP,h,true_and]
 .rw[DP (M1:=M) (Zm rfl rfl (by simp only[Ov,decide_eq_false h])),decide_eq_false (λz=>h z.1)]
theorem Zho{line:D}{wd:D}{W S:MO}{nm:List Nat}(F:gD nm is ks)(hS:S= .lst (is.map λn=>D.str (Zi n))):
  ∃x y z,iI [(M.length+2,is.map λn=>D.str (Zi n))] (qM [4,5]) (Zw (bD (e1 fX (aN wk (Za (Zc 5) (Zd)))) (bG (eC .non)) (bT)) (Zw (aP 6 (bB vM (Za (Zc 5) (Zd)))) (Zw (bD (cu (e2 cQ (Zc 4) (eC (.str [98,111,120]))) (e1 fX (aN lZ (Za (Zc 6) (Za (rZ) (Zd)))))) (bG (eC .non)) (bT)) (fL (cL nH nG (Zc 3) (Za (Zc 6) (Zd)))))))
   (g_ (ks.map D.str) (is.map λn=>D.str (Zi n))) [Ya line,Ya wd,Ya (.tup (ks.map D.str)),Ya (.ref (M.length+1)),Yi,Yi,Yi] (M++[W,.lst [.str nm],S])=
   .nx [Ya line,Ya wd,Ya (.tup (ks.map D.str)),Ya (.ref (M.length+1)),x,y,z] (M++[W,.lst (.str nm::is.map D.int),S]):=by
 obtain⟨e',M',hl,x,y,z,rfl,rfl⟩:=Ph (lk:=[(M.length+2,is.map λn=>D.str (Zi n))]) (g:=qM [4,5])
  (body:=(Zw (bD (e1 fX (aN wk (Za (Zc 5) (Zd)))) (bG (eC .non)) (bT)) (Zw (aP 6 (bB vM (Za (Zc 5) (Zd)))) (Zw (bD (cu (e2 cQ (Zc 4) (eC (.str [98,111,120]))) (e1 fX (aN lZ (Za (Zc 6) (Za (rZ) (Zd)))))) (bG (eC .non)) (bT)) (fL (cL nH nG (Zc 3) (Za (Zc 6) (Zd))))))))
  (P:=λj env M'=>∃x y z,env=[Ya line,Ya wd,Ya (.tup (ks.map D.str)),Ya (.ref (M.length+1)),x,y,z]/\M'=M++[W,.lst (.str nm::(is.take j).map D.int),S])
  (g_ (ks.map D.str) (is.map λn=>D.str (Zi n))) 0 [Ya line,Ya wd,Ya (.tup (ks.map D.str)),Ya (.ref (M.length+1)),Yi,Yi,Yi] (M++[W,.lst [.str nm],S]) ⟨Yi,Yi,Yi,rfl,rfl⟩
  (λj env M' hp=>by obtain⟨x,y,z,rfl,rfl⟩:=hp;subst hS;simp[gQ,xU])
  (λi d env M' hd hp=>by
   obtain⟨x,y,z,rfl,rfl⟩:=hp;obtain⟨k,n,hk,hn,rfl⟩:=zip_get F.len hd;rw[qd];refine⟨_,rfl,.inl ⟨[Ya line,Ya wd,Ya (.tup (ks.map D.str)),Ya (.ref (M.length+1)),Ya (.str k),Ya (.str (Zi n)),Ya (.int n)],M++[W,.lst (.str nm::(is.take (i+1)).map D.int),S],?_,_,_,_,rfl,rfl⟩⟩;have hb:=F.num n (uX hn);obtain⟨r1,r2,r3⟩:=J3 n hb;have c1:∀M0,(e1 fX (aN wk (Za (Zc 5) (Zd)))) [Ya line,Ya wd,Ya (.tup (ks.map D.str)),Ya (.ref (M.length+1)),Ya (.str k),Ya (.str (Zi n)),z] M0= .ok (.bl false) M0:=λM0=>ji (qN rfl (Znr hb M0)) rfl;refine(Zy (nJ (c1 _))).trans ?_;have c2:∀M0,(bB vM (Za (Zc 5) (Zd))) [Ya line,Ya wd,Ya (.tup (ks.map D.str)),Ya (.ref (M.length+1)),Ya (.str k),Ya (.str (Zi n)),z] M0= .ok (.int n) M0:=λM0=>gP (a:=.str (Zi n)) rfl (by simp only[Z3,Z4,r1];rw[if_pos (Ys r2 (by decide))]);refine(Zy (eF (c2 _))).trans ?_;have c3:∀M0,(cu (e2 cQ (Zc 4) (eC (.str [98,111,120]))) (e1 fX (aN lZ (Za (Zc 6) (Za (rZ) (Zd)))))) [Ya line,Ya wd,Ya (.tup (ks.map D.str)),Ya (.ref (M.length+1)),Ya (.str k),Ya (.str (Zi n)),Ya (.int n)] M0= .ok (.bl false) M0:=λM0=>by
    by_cases q:k=bx
    .subst q;rw[lW (M1:=M0) (Zm rfl rfl (by simp only[cQ,xK,xM,xN,xO,xP,decide_true]))];refine ji (xV rfl rfl (ZgS n 8 M0)) ?_;rw[decide_eq_true (F.box i n hk hn)];rfl
    .exact DP (M1:=M0) (Zm rfl rfl (by simp only[cQ,xK,xM,xN,xO,xP];rw[decide_eq_false q]))
   refine(Zy (nJ (c3 _))).trans ?_;have e:(is.take (i+1)).map D.int=(is.take i).map D.int++[.int n]:=by rw[U7,hn,lJ];rfl
   have hz:(D.str nm::(is.take i).map D.int).length<SZ:=by have:=F.few.1;rw[iC,Yn,sX];simp only[SZ];exact lB 2 0xf42405ba1c1010131b001 T1 this (Cm _ _)
   rw[e];refine xT (d:=.non) ?_;have g1:(M++[W,.lst (.str nm::(is.take i).map D.int),S])[M.length+1]?=Ya (.lst (.str nm::(is.take i).map D.int)):=by rw[xU];rfl
   simp only[cL,Zc,sW,jQ,R3.bind,Iw,g1,if_true,Za,Zd,Iv,if_pos hz,Jb];rfl)
 refine⟨x,y,z,hl.trans ?_⟩;have e:0+(g_ (ks.map D.str) (is.map λn=>D.str (Zi n))).length=is.length:=by rw[Pk,Yn,Yn,F.len,Nat.min_self,qd]
 rw[e,Va]
theorem Zjv{nm:List Nat}(F:gD nm is ks)(M:Store):Ax [.str (j_ nm is)] M= .ok (Br nm is) M:=by
 have hl:=(QW F.few.1 F.few.2 F.num).2;have hsp:nO (j_ nm is) [32]=nm::is.map Zi:=by
  refine Zfp 32 _ (λz=>nomatch z) λt ht=>?_;rcases Y5.mp ht with e|ht
  .rw[e];exactλz=>absurd (F.abc 32 z) (by decide)
  .obtain⟨i,hi,rfl⟩:=jb.mp ht
   exactλz=>absurd ((J3 i (F.num i hi)).2.2 32 z) (by decide)
 have w0:(cL fY vL (Zc 0) (Za (eC (.str [32])) (Zd))) [Ya (.str (j_ nm is)),Yi,Yi,Yi,Yi,Yi,Yi] M= .ok (.ref M.length) (M++[.lst ((nm::is.map Zi).map D.str)]):=by refine yG (d:=.str [32]) rfl rfl ?_;simp only[Pa,hsp];rw[if_pos ⟨by decide,Ys (GF hl 2) (by decide)⟩];rfl
 have mw:∀G,(M++ .lst ((nm::is.map Zi).map D.str)::G)[M.length]?=Ya (.lst ((nm::is.map Zi).map D.str)):=λG=>Zz ..;have wn:∀env G,env[1]?=Ya (Ya (.ref M.length))->(e2 Zv (Zc 1) (eC (.int 0))) env (M++ .lst ((nm::is.map Zi).map D.str)::G)= .ok (.str nm) (M++ .lst ((nm::is.map Zi).map D.str)::G):=λenv G he=>by refine Zm (a:=.ref M.length) (by simp only[Zc,he]) rfl (jG (mw G) ?_);exact jh _ 0
 refine Rt.pure (G:=[.lst ((nm::is.map Zi).map D.str),.lst (.str nm::is.map D.int),.lst (is.map λn=>D.str (Zi n))]) (env:=[Ya (.str (j_ nm is)),Yi,Yi,Yi,Yi,Yi,Yi]) ?_ ?_
 .unfold QQ;refine(Zy (eF w0)).trans ?_;have f0:(e1 (z7 jn) (e2 Zv (Zc 1) (eC (.int 0)))) [Ya (.str (j_ nm is)),Ya (.ref M.length),Yi,Yi,Yi,Yi,Yi] (M++[.lst ((nm::is.map Zi).map D.str)])= .ok (.tup (ks.map D.str)) (M++[.lst ((nm::is.map Zi).map D.str)]):=
   ji (wn _ [] rfl) (by simp only[z7,F.tab])
  refine(Zy (eF f0)).trans ?_;have c0:(gA (e2 vA (Zc 2) (eC .non)) (e2 Du (bB cH (Za (Zc 1) (Zd))) (e2 di (bB cH (Za (Zc 2) (Zd))) (eC (.int 1))))) [Ya (.str (j_ nm is)),Ya (.ref M.length),Ya (.tup (ks.map D.str)),Yi,Yi,Yi,Yi] (M++[.lst ((nm::is.map Zi).map D.str)])= .ok (.bl false) (M++[.lst ((nm::is.map Zi).map D.str)]):=by
   rw[zZ (M1:=M++[.lst ((nm::is.map Zi).map D.str)]) (Zm rfl rfl (by simp only[ZJ];rw[decide_eq_false (λz=>nomatch z)]))];refine Zm (gP rfl (zY (mw []))) (Zm (gP (a:=.tup (ks.map D.str)) rfl rfl) rfl rfl) ?_;simp only[Du,xK,xM,xN,xO,xP];rw[decide_eq_true]
   .rfl
   .rw[Yn,Yn,iC,Yn,F.len];rfl
  refine(Zy (nJ c0)).trans ?_;have r0:(aB (Za (e2 Zv (Zc 1) (eC (.int 0))) (Zd))) [Ya (.str (j_ nm is)),Ya (.ref M.length),Ya (.tup (ks.map D.str)),Yi,Yi,Yi,Yi] (M++[.lst ((nm::is.map Zi).map D.str)])= .ok (.ref (M.length+1)) (M++[.lst ((nm::is.map Zi).map D.str),.lst [.str nm]]):=by have q:=Zx (wn [Ya (.str (j_ nm is)),Ya (.ref M.length),Ya (.tup (ks.map D.str)),Yi,Yi,Yi,Yi] [] rfl) (g:=Zd) rfl;simp only[aB,q,R3.bind];rw[if_pos (show[D.str nm].length<=SZ from(by decide:1<=SZ))];simp only[alloc,Y4,mX,lH,UJ]
  refine(Zy (eF r0)).trans ?_;have z0:(t_ (Zc 2) (cG (Zc 1) (b_ (eC (.int 1))) (eE))) [Ya (.str (j_ nm is)),Ya (.ref M.length),Ya (.tup (ks.map D.str)),Ya (.ref (M.length+1)),Yi,Yi,Yi] (M++[.lst ((nm::is.map Zi).map D.str),.lst [.str nm]])= .ok ⟨g_ (ks.map D.str) (is.map λn=>D.str (Zi n)),[(M.length+2,is.map λn=>D.str (Zi n))]⟩ (M++[.lst ((nm::is.map Zi).map D.str),.lst [.str nm],.lst (is.map λn=>D.str (Zi n))]):=by
   have e1:cutD ((nm::is.map Zi).map D.str) (Ya 1) Yi=is.map λn=>D.str (Zi n):=(J4 ((nm::is.map Zi).map D.str) 1).trans (by rw[Yy,tu];rfl);have e2:(M++[.lst ((nm::is.map Zi).map D.str),.lst [.str nm],.lst (is.map λn=>D.str (Zi n))])[M.length+2]?=Ya (.lst (is.map λn=>D.str (Zi n))):=by rw[xU];rfl
   have e3:(cG (Zc 1) (b_ (eC (.int 1))) (eE)) [Ya (.str (j_ nm is)),Ya (.ref M.length),Ya (.tup (ks.map D.str)),Ya (.ref (M.length+1)),Yi,Yi,Yi] (M++[.lst ((nm::is.map Zi).map D.str),.lst [.str nm]])= .ok (.ref (M.length+2)) (M++[.lst ((nm::is.map Zi).map D.str),.lst [.str nm],.lst (is.map λn=>D.str (Zi n))]):=by simp only[cG,Zc,sW,jQ,R3.bind,b_,eC,eE,qG,qH,qI,qJ,mw,e1,alloc,Y4,iC,wZ,lH,List.cons_append,Gz]
   simp only[t_,e3,R3.bind,vP,e2,Zc,sW,jQ,Gz]
  obtain⟨x,y,z,hl⟩:=Zho (line:=.str (j_ nm is)) (wd:=.ref M.length) (M:=M) (W:=.lst ((nm::is.map Zi).map D.str)) F rfl;refine(Zy (show DQ _ _ _ _ _=_ from by unfold DQ;rw[z0];exact hl)).trans ?_;refine lV (gP rfl (O9 ?_));rw[xU];rfl
 .have q:∀l:List Int,dH M.length (l.map D.int)=true:=by
   intro l
   induction l with
   |nil=>rfl|cons a l ih=>simp only[Yy,dH,below,ih,zf]
  simp only[Br,below,dH,q,zf]
theorem QX(h:f env M= .ok d M'):lX f env M= .ok d M':=by simp only[lX,h]
theorem QZ{f:bW}{d:List D}(h:f env M= .ok d M'):t6 f env M= .ok d M':=by simp only[t6,h]
theorem Bs{f:S3}{e:Zt}(h:f env M= .nx e M'):fM f env M= .nx e M':=by rw[fM,h]
theorem Zrq{f:S3}(h:f env M= .rt d M'):fM f env M= .rt d M':=by rw[fM,h]
theorem Zi1{f g:S3}{x:X3}(h:f env M= .exc x M'):Zw f g env M= .exc x M':=by rw[Zw,h]
theorem Q0{ps:Nat}{body:S3}{x:X3}(h:body env M= .exc x M')(hl:ds.length=ps:=by rfl)(he:ds.map Ya++Yt (n-ps) Yi=env:=by rfl):dB ps n body ds M= .exc x M':=by subst he;rw[dB,if_pos hl,h]
variable{c:List Nat}
theorem ZgM{g:bW}{M M1:Store}(h:g env M= .ok [d] M1):t7 c g env M= .exc ⟨c,.ref M1.length⟩ (M1++[.ins (0::c) []]):=by rw[t7,h]
theorem ZlP{x:X3}(h:f env M= .exc x M'):fL f env M= .exc x M':=by rw[fL,h]
theorem ZmH{i:Nat}{x:X3}(h:f env M= .exc x M'):aP i f env M= .exc x M':=by rw[aP,h]
variable{j:Nat}
theorem Zpb{cs:List (List Nat)}{b g:S3}{e:Zt}(h:b env M= .nx e M'):xX cs j b g env M= .nx e M':=by rw[xX,h]
theorem Zmi{cs:List (List Nat)}{b g:S3}{env e1 e2:Zt}{M M' M2:Store}{x:X3}(h:b env M= .exc x M')(hc:cs.contains x.cls=true)(hg:g (env.set j (Ya x.arg)) M'= .nx e1 M2)(he:e1.set j Yi=e2):xX cs j b g env M= .nx e2 M2:=by rw[xX,h];simp only[hc,if_true,hg,he]
theorem Q3{yes no:List (List Nat)}{fs:List (List Nat×D)}(h:M[n]?=Ya (.ins (0::c) fs))(hy:yes.contains c=true):dD yes no (.ref n) M= .ok (.bl true) M:=by simp only[Pq,h,hy,if_true]
theorem Q4{yes no:List (List Nat)}{fs:List (List Nat×D)}(h:M[n]?=Ya (.ins (0::c) fs))(hy:yes.contains c=false)(hn:no.contains c=true):dD yes no (.ref n) M= .ok (.bl false) M:=by simp only[Pq,h,hy,hn,if_true,Cq,if_false]
theorem J6{α:Type}{enc:α->D}{it:gO}{g:G3}{body:S3}{P:Zt->Store->Prop}{o:O3}(ho:(∃x S,o= .exc x S)\/∃d S,o= .rt d S)(ok:α->Bool)(hl:∀env M,P env M->locked it M=true):∀(as:List α) (env:Zt) (M:Store),P env M ->
  (∀a∈as,∀env M,P env M->∃cT,g (enc a) env=Ya cT/\(ok a=true->∃e M',body cT M= .nx e M'/\P e M')/\(ok a=false->body cT M=o)) ->
  (as.all ok=true->∃e M',jf it g body (as.map enc) env M= .nx e M'/\P e M')/\(as.all ok=false->jf it g body (as.map enc) env M=o)
 |[],env,M,p,_=>⟨λ_=>⟨env,M,by rw[sZ,DK,if_pos (hl _ _ p)],p⟩,(λh=>nomatch h)⟩|a::as,env,M,p,hs=>by
  obtain⟨cT,hg,h1,h2⟩:=hs a (Y0 ..) env M p;rw[Yy,DN,if_pos (hl _ _ p),hg,mY];cases hk:ok a with
  |true=>obtain⟨e,M',hb,p'⟩:=h1 hk;have ih:=J6 (it:=it) ho ok hl as e M' p' λd hd=>hs d (Yx _ hd);simp only[hb,Mj];exact ih|false=>simp only[h2 hk,Mi];refine⟨(λh=>nomatch h),λ_=>?_⟩;rcases ho with⟨x,S,rfl⟩|⟨x,S,rfl⟩<;>rfl
theorem ZkG{α:Type}{enc:α->D}{lk:List (Nat×List D)}{g:G3}{body:S3}{P:Zt->Store->Prop}{o:O3}(ho:(∃x S,o= .exc x S)\/∃d S,o= .rt d S)(ok:α->Bool)(hl:∀env M,P env M->gQ lk M=true):∀(as:List α) (env:Zt) (M:Store),P env M ->
  (∀a∈as,∀env M,P env M->∃cT,g (enc a) env=Ya cT/\(ok a=true->∃e M',body cT M= .nx e M'/\P e M')/\(ok a=false->body cT M=o)) ->
  (as.all ok=true->∃e M',iI lk g body (as.map enc) env M= .nx e M'/\P e M')/\(as.all ok=false->iI lk g body (as.map enc) env M=o)
 |[],env,M,p,_=>⟨λ_=>⟨env,M,by rw[sZ,vN,if_pos (hl _ _ p)],p⟩,(λh=>nomatch h)⟩|a::as,env,M,p,hs=>by
  obtain⟨cT,hg,h1,h2⟩:=hs a (Y0 ..) env M p;rw[Yy,vO,if_pos (hl _ _ p),hg,mY];cases hk:ok a with
  |true=>obtain⟨e,M',hb,p'⟩:=h1 hk;have ih:=ZkG (lk:=lk) ho ok hl as e M' p' λd hd=>hs d (Yx _ hd);simp only[hb,Mj];exact ih|false=>simp only[h2 hk,Mi];refine⟨(λh=>nomatch h),λ_=>?_⟩;rcases ho with⟨x,S,rfl⟩|⟨x,S,rfl⟩<;>rfl
structure Sm(n:Nat)(M S:Store):Prop where
 len:M.length<=S.length
 old:∀j,j<M.length->j≠n->S[j]?=M[j]?
theorem Sm.refl(n:Nat)(M:Store):Sm n M M:=⟨Yq _,λ_ _ _=>rfl⟩
variable{S:Store}
theorem Sm.trans{T:Store}(a:Sm n M S)(b:Sm n S T):Sm n M T:=⟨Ys a.len b.len,λj h1 h2=>(b.old j (Yw h1 a.len) h2).trans (a.old j h1 h2)⟩
theorem Sm.app(n:Nat)(M G:Store):Sm n M (M++G):=⟨by rw[Y4];exact p_ _ _,λj h _=>Y7 h⟩
theorem Sm.get(k:Sm n M S){o:MO}(h:M[j]?=Ya o)(hj:j≠n):S[j]?=Ya o:=(k.old j (Yj.mp h).1 hj).trans h
theorem Sm.set(n:Nat)(M:Store)(o:MO):Sm n M (M.set n o):=⟨by rw[LK];exact Yq _,λj _ h2=>jw (cP h2)⟩
theorem mq{M:List α}{o:α}(h:M[n]?=Ya o):n<M.length:=(Yj.mp h).1
theorem ZkR{it:gO}{i n:Nat}{elt:E3}{env0:Zt}{S0:Store}{R:D->D->Store->Prop}(hR:∀d e S S',R d e S->Sm n S S'->R d e S')(hl:∀S,Sm n S0 S->locked it S=true):∀(ds acc:List D) (env:Zt) (S:Store),(∀d,env.set i (Ya d)=env0.set i (Ya d))->Sm n S0 S->S[n]?=Ya (.lst acc)->acc.length+ds.length<=1000 ->
  (∀d∈ds,∀S,Sm n S0 S->∃e S',elt (env0.set i (Ya d)) S= .ok e S'/\Sm n S S'/\S'[n]?=S[n]?/\R d e S') ->
  ∃(ps:List (D×D)) (S':Store),fZ it (cM i) [] elt n ds env S= .ok (.ref n) S'/\Sm n S S'/\S'[n]?=Ya (.lst (acc++ps.map (·.2)))/\ps.map (·.1)=ds/\∀p∈ps,R p.1 p.2 S'
 |[],acc,env,S,_,k,hn,_,_=>⟨[],S,by rw[O4,if_pos (hl S k)],Sm.refl _ _,by rw[sZ,gW];exact hn,rfl,λ_ z=>nomatch z⟩|d::ds,acc,env,S,he,k,hn,hz,hs=>by
  obtain⟨e,S1,h1,k1,n1,r1⟩:=hs d (Y0 ..) S k;have g1:S1[n]?=Ya (.lst acc):=n1.trans hn;have k2:Sm n S1 (S1.set n (.lst (acc++[e]))):=Sm.set ..;have g2:(S1.set n (.lst (acc++[e])))[n]?=Ya (.lst (acc++[e])):=jR (mq g1);have la:acc.length<SZ:=by rw[iC]at hz;exact GJ (show acc.length<=1000 by omega) (by decide)
  obtain⟨ps,S',h3,k3,g3,e3,r3⟩:=ZkR hR hl ds (acc++[e]) (env.set i (Ya d)) (S1.set n (.lst (acc++[e]))) (λx=>by rw[zb];exact he x) (k.trans (k1.trans k2)) g2 (by rw[Y4,mX];rw[iC]at hz;omega) (λd hd=>hs d (Yx _ hd));refine⟨(d,e)::ps,S',?_,k1.trans (k2.trans k3),by rw[g3,Yy,lH];rfl,by rw[Yy,e3],λp hp=>?_⟩
  .rw[IW,if_pos (hl S k)];simp only[cM,O1,R3.bind,if_true];rw[he d,h1];simp only[g1,if_pos la];rw[←he d];exact h3
  .rcases Y5.mp hp with rfl|hp
   .exact hR _ _ _ _ r1 (k2.trans k3)
   .exact r3 p hp
theorem Q5{own i:Nat}{it:I3}{elt:E3}{M M1:Store}{lock:Option Nat}{R:D->D->Store->Prop}(hR:∀d e S S',R d e S->Sm M1.length S S'->R d e S')(hi:it env M= .ok ⟨ds,lock⟩ M1)(yL:∀n,lock=Ya n->M1[n]?=Ya (.lst ds))(hz:ds.length<=1000)(he:∀d∈ds,∀S,M1.length<S.length->(∀j,j<M1.length->S[j]?=M1[j]?)->∃e S',elt ((env++Yt own Yi).set i (Ya d)) S= .ok e S'/\S<+:S'/\R d e S'):
  ∃(ps:List (D×D)) (S':Store),dO it own (cM i) [] elt env M= .ok (.ref M1.length) S'/\M1<+:S'/\S'[M1.length]?=Ya (.lst (ps.map (·.2)))/\ps.map (·.1)=ds/\∀p∈ps,R p.1 p.2 S':=by
 have hk:∀S,Sm M1.length (M1++[.lst []]) S->M1.length<S.length/\∀j,j<M1.length->S[j]?=M1[j]?:=λS k=>by have l:=k.len;rw[Y4,mX]at l;exact⟨l,λj hj=>(k.old j (by rw[Y4,mX];omega) (dM hj)).trans (Y7 hj)⟩
 obtain⟨ps,S',h1,k,g,e,r⟩:=ZkR (it:=⟨ds,lock⟩) (i:=i) (n:=M1.length) (elt:=elt) (env0:=env++Yt own Yi) (S0:=M1++[.lst []]) hR
  (λS k=>by
   unfold locked;cases lock with
   |none=>rfl|some n=>exact decide_eq_true (((hk S k).2 n (mq (yL n rfl))).trans (yL n rfl))) ds [] (env++Yt own Yi) (M1++[.lst []]) (λ_=>rfl) (Sm.refl _ _) (Zz ..) (by rw[wZ,qd];exact hz)
  (λd hd S k=>by obtain⟨e,S1,h1,⟨G,rfl⟩,r⟩:=he d hd S (hk S k).1 (hk S k).2;exact⟨e,_,h1,Sm.app _ _ _,Y7 (hk S k).1,r⟩)
 refine⟨ps,S',by rw[O7 hi];exact h1,?_,g,e,r⟩;obtain⟨l,o⟩:=hk S' k;refine List.prefix_iff_getElem?.mpr λj hj=>?_;rw[o j hj];exact lG hj
theorem ZsT{own i:Nat}{it:I3}{elt:E3}{M M1:Store}{lock:Option Nat}(h:D->D)(hi:it env M= .ok ⟨ds,lock⟩ M1)(yL:∀n,lock=Ya n->M1[n]?=Ya (.lst ds))(hz:ds.length<=1000)(he:∀d∈ds,∀S,(∀j,j<M1.length->S[j]?=M1[j]?)->∃S',elt ((env++Yt own Yi).set i (Ya d)) S= .ok (h d) S'/\S<+:S'):
  ∃S':Store,dO it own (cM i) [] elt env M= .ok (.ref M1.length) S'/\M1<+:S'/\S'[M1.length]?=Ya (.lst (ds.map h)):=by
 obtain⟨ps,S',h1,p,g,e,r⟩:=Q5 (R:=λd e _=>e=h d) (λ_ _ _ _ q _=>q) hi yL hz λd hd S _ o=>by obtain⟨S',h1,h2⟩:=he d hd S o;exact⟨_,S',h1,h2,rfl⟩
 refine⟨S',h1,p,?_⟩;rw[g,←e,tu];exact congrArg (λx=>Ya (MO.lst x)) (Ly λp hp=>r p hp)
noncomputable abbrev GR:=List Nat×List Int
noncomputable def aW(r:GR):D:=Br r.1 r.2
noncomputable def bH(r:GR):List Nat:=j_ r.1 r.2
structure Et(rs:List GR):Prop where
 fit:∀r∈rs,∃ks,gD r.1 r.2 ks
 few:rs.length<=1000
 ne:rs≠[]
noncomputable abbrev nR:List Nat:=[78,111,82,111,108,108]
noncomputable abbrev hlt:List Nat:=[104,97,108,116]
noncomputable abbrev cR:List Nat:=[106,117,109,112]
noncomputable abbrev dR:List Nat:=[119,104,101,110]
noncomputable def inR(n:Nat)(v:Int):Bool:=decide (0<=v/\v<(n:Int))
noncomputable def uq(n:Nat)(x:List Nat×Int):Bool:=!(decide (x.1=ou)&&!inR n x.2)
noncomputable def Q6(x:List Nat×Int):D:=.tup [.str x.1,.int x.2]
noncomputable def kh(n:Nat)(g:GR):Bool:=match tabAt g.1 jn with
 |some ks=>(ks.zip g.2).all (uq n)|none=>false
noncomputable def yI(g:GR):Bool:=decide (g.1=hlt\/g.1=cR)
noncomputable def o7(rs:List GR):Bool:=(match rs.getLast? with|some r=>yI r|none=>false)&&rs.all (kh rs.length)
theorem Zq8(h:i.natAbs<10^60):i.natAbs.log2<1000:=by
 by_cases z:i.natAbs=0
 .rw[z];decide
 .exact(Nat.log2_lt z).mpr (tE h (by decide +kernel))
theorem Zrw{a b:PySem.Str}(h:f env M= .ok (.int i) M)(hi:i.natAbs.log2<1000):∃x,yr a b f env M= .ok (.str x) M:=by unfold yr;rw[h];exact⟨_,if_pos hi⟩
theorem eq_str(a b:List Nat)(M:Store):cQ (.str a) (.str b) M= .ok (.bl (decide (a=b))) M:=by simp only[cQ,xK,xM,xN,xO,xP]
theorem ZkA:∀(ks:List (List Nat)) (is:List Int),g_ (ks.map D.str) (is.map D.int)=(ks.zip is).map Q6
 |[],_=>rfl|_::_,[]=>rfl|k::ks,i::is=>by rw[List.zip_cons_cons,Yy,Yy,Yy,←ZkA ks is];rfl
theorem ZkV{r:GR}(ht:tabAt r.1 jn=Ya ks)(hv:env[1]?=Ya (Ya (aW r))):
  (t_ (e1 (t8 jn) (e2 Zv (Zc 1) (eC (.int 0)))) (cG (Zc 1) (b_ (eC (.int 1))) (eE))) env M= .ok ⟨(ks.zip r.2).map Q6,[]⟩ M:=by
 have e0:(e1 (t8 jn) (e2 Zv (Zc 1) (eC (.int 0)))) env M= .ok (.tup (ks.map D.str)) M:=by refine ji (Zm (a:=aW r) (M1:=M) (by simp only[Zc,hv]) rfl (ZW (jh _ 0))) ?_;simp only[t8,ht]
 have e1:(cG (Zc 1) (b_ (eC (.int 1))) (eE)) env M= .ok (.tup (r.2.map D.int)) M:=by have q:cutD (D.str r.1::r.2.map D.int) (Ya 1) Yi=r.2.map D.int:=J4 (D.str r.1::r.2.map D.int) 1;simp only[cG,Zc,hv,R3.bind,b_,eC,eE,aW,Br,qG,qH,qI,qJ,q]
 rw[←ZkA];simp only[t_,e0,e1,R3.bind,vP,Gz]
variable{rs:List GR}
theorem refuse_eq(F:Et rs)(hM:M[n]?=Ya (.lst (rs.map aW))):
  (o7 rs=true->wu [.ref n] M= .ok .non M)/\(o7 rs=false->wu [.ref n] M= .exc ⟨nR,.ref M.length⟩ (M++[.ins (0::nR) []])):=by
 obtain⟨q,r,e⟩:∃q r,rs=q++[r]:=⟨_,_,(Gp F.ne).symm⟩;have gl:rs.getLast?=Ya r:=by rw[e];simp
 have c0:(lX (e2 Dv (e2 Zv (e2 Zv (Zc 0) (e1 cA (eC (.int 1)))) (eC (.int 0))) (iH (Za (eC (.str [104,97,108,116])) (Za (eC (.str [106,117,109,112])) (Zd)))))) [Ya (.ref n),Yi,Yi,Yi] M= .ok (.bl (!yI r)) M:=by
  have g:dz (rs.map aW) (-1)=Ya (aW r):=by rw[e,lJ];exact getD_last ..
  refine QX (Zm (Zm (Zm rfl rfl (jG hM g)) rfl (ZW (jh _ 0))) (zX rfl rfl) ?_);simp only[Dv,ZK,ZL,yI];by_cases h1:r.1=hlt
  .rw[h1];rfl
  .by_cases h2:r.1=cR
   .rw[h2];rfl
   .have:decide (r.1=hlt\/r.1=cR)=false:=decide_eq_false λz=>z.elim h1 h2;rw[this];have h3:¬hlt=r.1:=λz=>h1 z.symm;have h4:¬cR=r.1:=λz=>h2 z.symm;simp[Om,d_,h3,h4]
 have lp:=J6 (enc:=aW) (it:=⟨rs.map aW,Ya n⟩) (g:=cM 1) (o:=.exc ⟨nR,.ref M.length⟩ (M++[.ins (0::nR) []])) (ho:=.inl ⟨_,_,rfl⟩)
  (body:=(qP (t_ (e1 (t8 jn) (e2 Zv (Zc 1) (eC (.int 0)))) (cG (Zc 1) (b_ (eC (.int 1))) (eE))) (qM [2,3]) (bD (lX (cu (e2 cQ (Zc 2) (eC (.str [114,111,119]))) (e1 fX (aN lZ (Za (Zc 3) (Za (bB cH (Za (Zc 0) (Zd))) (Zd))))))) (t7 [78,111,82,111,108,108] (Za (yr "there is no row " " to go on to" (Zc 3)) (Zd))) (fM (bT)))))
  (P:=λenv M'=>∃x y z,env=[Ya (.ref n),x,y,z]/\M=M') (kh rs.length)
  (λenv M' hp=>by obtain⟨x,y,z,rfl,rfl⟩:=hp;simp only[locked,hM,decide_true]) rs [Ya (.ref n),Yi,Yi,Yi] M ⟨Yi,Yi,Yi,rfl,rfl⟩
  (fun g hg env M' hp=>by
   obtain⟨x,y,z,rfl,rfl⟩:=hp;obtain⟨ks,hk⟩:=F.fit g hg;have lq:=ZkG (enc:=Q6) (lk:=[]) (g:=qM [2,3]) (o:=.exc ⟨nR,.ref M.length⟩ (M++[.ins (0::nR) []])) (ho:=.inl ⟨_,_,rfl⟩)
    (body:=(bD (lX (cu (e2 cQ (Zc 2) (eC (.str [114,111,119]))) (e1 fX (aN lZ (Za (Zc 3) (Za (bB cH (Za (Zc 0) (Zd))) (Zd))))))) (t7 [78,111,82,111,108,108] (Za (yr "there is no row " " to go on to" (Zc 3)) (Zd))) (fM (bT))))
    (P:=λenv M'=>∃y z,env=[Ya (.ref n),Ya (aW g),y,z]/\M=M') (uq rs.length) (λ_ _ _=>rfl) (ks.zip g.2) [Ya (.ref n),Ya (aW g),y,z] M ⟨y,z,rfl,rfl⟩
    (λp hp env M' he=>by
     obtain⟨y,z,rfl,rfl⟩:=he;obtain⟨k,v⟩:=p;have hv:v.natAbs<10^60:=hk.num v (Gy hp).2;have c:(lX (cu (e2 cQ (Zc 2) (eC (.str [114,111,119]))) (e1 fX (aN lZ (Za (Zc 3) (Za (bB cH (Za (Zc 0) (Zd))) (Zd))))))) [Ya (.ref n),Ya (aW g),Ya (.str k),Ya (.int v)] M= .ok (.bl (!uq rs.length (k,v))) M:=by
      refine QX ?_;unfold uq;rw[Bool.not_not];by_cases h:k=ou
      .rw[lW (M1:=M) (Zm rfl rfl ((eq_str k ou M).trans (by rw[decide_eq_true h])))];refine ji (xV (b:=.int (rs.map aW).length) (M2:=M) rfl (gP rfl (zY hM)) (ZgS v _ M)) ?_;rw[Yn,decide_eq_true h];rfl
      .rw[DP (M1:=M) (Zm rfl rfl ((eq_str k ou M).trans (by rw[decide_eq_false h]))),decide_eq_false h];rfl
     refine⟨_,rfl,λh=>?_,λh=>?_⟩
     .rw[h]at c;exact⟨_,M,(O5 c).trans (Bs rfl),_,_,rfl,rfl⟩
     .rw[h]at c;obtain⟨x,hx⟩:=Zrw (a:="there is no row ") (b:=" to go on to") (f:=Zc 3) (env:=[Ya (.ref n),Ya (aW g),Ya (.str k),Ya (.int v)]) (M:=M) rfl (Zq8 hv);exact(vJ c).trans (ZgM (Zx hx rfl)))
   have e0:kh rs.length g=(ks.zip g.2).all (uq rs.length):=by unfold kh;rw[hk.tab]
   rw[e0];refine⟨_,rfl,λh=>?_,λh=>?_⟩
   .obtain⟨e',M',h1,y2,z2,rfl,rfl⟩:=lq.1 h;exact⟨_,M,(by unfold qP;rw[ZkV hk.tab rfl];exact h1),Ya (aW g),y2,z2,rfl,rfl⟩
   .unfold qP;rw[ZkV hk.tab rfl];exact lq.2 h)
 have it:(cN (Zc 0)) [Ya (.ref n),Yi,Yi,Yi] M= .ok ⟨rs.map aW,Ya n⟩ M:=by simp only[cN,Zc,jQ,R3.bind,hM]
 have gB:o7 rs=(yI r&&rs.all (kh rs.length)):=by unfold o7;rw[gl]
 rw[gB];cases h1:yI r with
 |false=>refine⟨(λz=>nomatch z),λ_=>?_⟩;rw[h1]at c0;exact Q0 (ps:=1) (n:=4) (ds:=[.ref n]) (env:=[Ya (.ref n),Yi,Yi,Yi]) (by unfold Eo;exact Zi1 ((vJ c0).trans (ZgM (Zx rfl rfl))))|true=>
  rw[h1]at c0;have go:∀o,z6 (cN (Zc 0)) (cM 1) (qP (t_ (e1 (t8 jn) (e2 Zv (Zc 1) (eC (.int 0)))) (cG (Zc 1) (b_ (eC (.int 1))) (eE))) (qM [2,3]) (bD (lX (cu (e2 cQ (Zc 2) (eC (.str [114,111,119]))) (e1 fX (aN lZ (Za (Zc 3) (Za (bB cH (Za (Zc 0) (Zd))) (Zd))))))) (t7 [78,111,82,111,108,108] (Za (yr "there is no row " " to go on to" (Zc 3)) (Zd))) (fM (bT)))) [Ya (.ref n),Yi,Yi,Yi] M=o->Eo [Ya (.ref n),Yi,Yi,Yi] M=o:=λo h=>by unfold Eo;exact(Zy ((O5 c0).trans (Bs rfl))).trans h
  rw[Mj];refine⟨λh=>?_,λh=>?_⟩
  .obtain⟨e',M',h2,_,_,_,rfl,rfl⟩:=lp.1 h;have q:=ZqB (ps:=1) (n:=4) (ds:=[.ref n]) (env:=[Ya (.ref n),Yi,Yi,Yi]) (go _ (by unfold z6;rw[it];exact h2));exact q.trans (Zlw rfl)
  .exact Q0 (ps:=1) (n:=4) (ds:=[.ref n]) (env:=[Ya (.ref n),Yi,Yi,Yi]) (go _ (by unfold z6;rw[it];exact lp.2 h))
theorem Zg2(F:Et rs):(∀t∈rs.map bH,t.length<=248)/\jZ [10] (rs.map bH)<=SZ/\(glue [10] (rs.map bH)).length+2<=SZ:=by
 have h:∀t∈rs.map bH,t.length<=248:=by intro t ht;obtain⟨r,hr,rfl⟩:=jb.mp ht;obtain⟨ks,hk⟩:=F.fit r hr;exact(QW hk.few.1 hk.few.2 hk.num).2
 obtain⟨a,b⟩:=Ziz 10 248 _ h;have e:(rs.map bH).length*(248+1)<=249000:=by rw[Yn];have:=F.few;omega
 exact⟨h,Ys a (Ys e (by decide)),Ys (GF (Ys b e) 2) (by decide)⟩
theorem ZlQ{nm:List Nat}(ha:∀c∈nm,97<=c)(h:∀n∈is,n.natAbs<10^60):∀c∈j_ nm is,32<=c:=by
 have gen:∀ts:List (List Nat),(∀t∈ts,∀c∈t,32<=c)->∀c∈glue [32] ts,32<=c:=by
  intro ts
  induction ts with
  |nil=>intro _ c hc;exact nomatch hc|cons t ts ih=>
   intro h c hc;cases ts with
   |nil=>exact h t (Y0 ..) c hc|cons u ts=>
    rw[Bp]at hc;rcases u0.mp hc with hc|hc
    .exact h t (Y0 ..) c hc
    .rcases u0.mp hc with hc|hc
     .rw[wY.mp hc];exact Yq _
     .exact ih (λq hq=>h q (Yx _ hq)) c hc
 refine gen _ λt ht=>?_;rcases Y5.mp ht with e|ht
 .rw[e];exactλc hc=>Ys (by decide) (ha c hc)
 .obtain⟨i,hi,rfl⟩:=jb.mp ht
  exactλc hc=>Ys (by decide) ((J3 i (h i hi)).2.2 c hc)
theorem ZiC(F:Et rs):nO (glue [10] (rs.map bH)) [10]=rs.map bH:=by refine Zfp 10 _ (λz=>F.ne (Gu.mp z)) λt ht=>?_;obtain⟨r,hr,rfl⟩:=jb.mp ht;obtain⟨ks,hk⟩:=F.fit r hr;exactλz=>absurd (ZlQ hk.abc hk.num 10 z) (by decide)
theorem Ziq(n:Nat):∀l:List Int,dH n (l.map D.int)=true
 |[]=>rfl|a::l=>by simp only[Yy,dH,below,Ziq n l,zf]
theorem Zji(n:Nat):∀l:List GR,dH n (l.map aW)=true
 |[]=>rfl|a::l=>by simp only[Yy,dH,aW,Br,below,Ziq,Zji n l,zf]
theorem Zlk(n:Nat)(l:List GR):below n (.tup (l.map aW))=true:=by simp only[below,Zji]
theorem Zj3(F:Et rs)(M:Store):(o7 rs=true->yu [.str (glue [10] (rs.map bH))] M= .ok (.tup (rs.map aW)) M)/\
  (o7 rs=false->yu [.str (glue [10] (rs.map bH))] M= .exc ⟨nR,.ref (M.length+2)⟩ (M++[.lst (rs.map aW),.lst ((rs.map bH).map D.str),.ins (0::nR) []])):=by
 have Z:=Zg2 F;have sp:(cL fY vL (Zc 0) (Za (eC (.str [10])) (Zd))) [Ya (.str (glue [10] (rs.map bH))),Ya (.ref M.length),Yi,Yi,Yi] (M++[.lst []])= .ok (.ref (M.length+1)) (M++[.lst [],.lst ((rs.map bH).map D.str)]):=by refine yG (d:=.str [10]) rfl rfl ?_;simp only[Pa,ZiC F];rw[if_pos ⟨by decide,Z.2.2⟩];simp only[alloc,Y4,mX,lH,UJ]
 have en:(Jd (cL fY vL (Zc 0) (Za (eC (.str [10])) (Zd)))) [Ya (.str (glue [10] (rs.map bH))),Ya (.ref M.length),Yi,Yi,Yi] (M++[.lst []])= .ok ⟨oR 1 ((rs.map bH).map D.str),[(M.length+1,(rs.map bH).map D.str)]⟩ (M++[.lst [],.lst ((rs.map bH).map D.str)]):=by
  have g:(M++[.lst [],.lst ((rs.map bH).map D.str)])[M.length+1]?=Ya (.lst ((rs.map bH).map D.str)):=by rw[xU];rfl
  simp only[Jd,sp,R3.bind,g]
 obtain⟨e',M',hl,x,y,z,rfl,rfl⟩:=Ph (lk:=[(M.length+1,(rs.map bH).map D.str)]) (g:=qM [2,3])
  (body:=(Zw (fM (aP 4 (aN Ax (Za (Zc 3) (Zd))))) (Zw (bD (lX (e2 vA (Zc 4) (eC .non))) (Ek [66,97,100,82,111,119] [114,111,119] (Za (Zc 2) (Zd))) (fM (bT))) (fM (fL (cL nH nG (Zc 1) (Za (Zc 4) (Zd))))))))
  (P:=λj env M'=>∃x y z,env=[Ya (.str (glue [10] (rs.map bH))),Ya (.ref M.length),x,y,z]/\M'=M++[.lst ((rs.take j).map aW),.lst ((rs.map bH).map D.str)])
  (oR 1 ((rs.map bH).map D.str)) 0 [Ya (.str (glue [10] (rs.map bH))),Ya (.ref M.length),Yi,Yi,Yi] (M++[MO.lst [],MO.lst ((rs.map bH).map D.str)]) ⟨Yi,Yi,Yi,rfl,rfl⟩
  (λj env M' hp=>by obtain⟨x,y,z,rfl,rfl⟩:=hp;simp[gQ,xU])
  (λi d env M' hd hp=>by
   obtain⟨x,y,z,rfl,rfl⟩:=hp;rw[Pb,gn,gn]at hd;cases hr:rs[i]? with
   |none=>rw[hr]at hd;cases hd|some r=>
    rw[hr]at hd;cases hd;obtain⟨ks,hk⟩:=F.fit r (uX hr);rw[qd];refine⟨_,rfl,.inl ⟨[Ya (.str (glue [10] (rs.map bH))),Ya (.ref M.length),Ya (.int ((1+i:Nat):Int)),Ya (.str (bH r)),Ya (aW r)],M++[.lst ((rs.take (i+1)).map aW),.lst ((rs.map bH).map D.str)],?_,_,_,_,rfl,rfl⟩⟩;have c1:∀M0,(aN Ax (Za (Zc 3) (Zd))) [Ya (.str (glue [10] (rs.map bH))),Ya (.ref M.length),Ya (.int ((1+i:Nat):Int)),Ya (.str (bH r)),z] M0= .ok (aW r) M0:=λM0=>qN rfl (Zjv hk M0);refine(Zy (Bs (eF (c1 _)))).trans ?_;refine(Zy ((O5 (QX (Zm rfl rfl (show vA (aW r) .non _=_ from by simp only[ZJ];rw[decide_eq_false (λz=>nomatch z)])))).trans (Bs rfl))).trans ?_;have e:(rs.take (i+1)).map aW=(rs.take i).map aW++[aW r]:=by rw[U7,hr,lJ];rfl
    have hz:((rs.take i).map aW).length<SZ:=by have:=F.few;rw[Yn,sX];simp only[SZ];exact lB 2 0xf42405b1101013e83b001 T1 this (Cm _ _)
    rw[e];refine Bs (xT (d:=.non) ?_);have g1:(M++[MO.lst ((rs.take i).map aW),.lst ((rs.map bH).map D.str)])[M.length]?=Ya (.lst ((rs.take i).map aW)):=Zz ..;have s1:(M++[MO.lst ((rs.take i).map aW),.lst ((rs.map bH).map D.str)]).set M.length (.lst ((rs.take i).map aW++[aW r]))=M++[.lst ((rs.take i).map aW++[aW r]),.lst ((rs.map bH).map D.str)]:=Jb M _ 0 _;simp only[cL,Zc,sW,jQ,R3.bind,Iw,g1,if_true,Za,Zd,Iv,if_pos hz,s1])
 have e:0+(oR 1 ((rs.map bH).map D.str)).length=rs.length:=by rw[Pg,Yn,Yn,qd]
 rw[e,Va]at hl;have g1:(M++[.lst (rs.map aW),.lst ((rs.map bH).map D.str)])[M.length]?=Ya (.lst (rs.map aW)):=Zz ..;have hb:∀o,(Zw (fL (aN wu (t6 (Za (Zc 1) (Zd))))) (fM (bG (bB qK (Za (Zc 1) (Zd)))))) [Ya (.str (glue [10] (rs.map bH))),Ya (.ref M.length),x,y,z] (M++[.lst (rs.map aW),.lst ((rs.map bH).map D.str)])=o->JS [Ya (.str (glue [10] (rs.map bH))),Yi,Yi,Yi,Yi] M=o:=λo h=>by unfold JS;refine(Zy (Bs (eF (d:=.ref M.length) (M':=M++[.lst []]) (by simp only[aB,Zd,R3.bind];rw[if_pos (show([]:List D).length<=SZ by decide)];rfl)))).trans ?_;exact(Zy (show qP _ _ _ _ _=_ from by unfold qP;rw[en];exact hl)).trans h
 have R:=refuse_eq F g1;refine⟨λh=>?_,λh=>?_⟩
 .refine Rt.pure (G:=[.lst (rs.map aW),.lst ((rs.map bH).map D.str)]) (env:=[Ya (.str (glue [10] (rs.map bH))),Yi,Yi,Yi,Yi]) (hb _ ?_) ?_
  .exact(Zy (xT ((show aN wu _ _ _=_ from by simp only[aN,QZ (Zx (g:=Zd) (show(Zc 1) [Ya (.str (glue [10] (rs.map bH))),Ya (.ref M.length),x,y,z] _= .ok (.ref M.length) _ from rfl) rfl),R3.bind];exact R.1 h)))).trans (Zrq (lV (gP rfl (O9 g1))))
  .exact Zlk _ _
 .refine(Q0 (ps:=1) (n:=5) (ds:=[.str (glue [10] (rs.map bH))]) (env:=[Ya (.str (glue [10] (rs.map bH))),Yi,Yi,Yi,Yi]) (hb _ (Zi1 (ZlP (show aN wu _ _ _=_ from by simp only[aN,QZ (Zx (g:=Zd) (show(Zc 1) [Ya (.str (glue [10] (rs.map bH))),Ya (.ref M.length),x,y,z] _= .ok (.ref M.length) _ from rfl) rfl),R3.bind];exact R.2 h))))).trans ?_;rw[Y4,lH];rfl
noncomputable def eQ(g:GR):List D:=.str g.1::g.2.map D.int
structure Rows(M:Store)(r:Nat)(as:List Nat)(g:Nat->GR):Prop where
 aZ:M[r]?=Ya (.lst (as.map D.ref))
 row:∀a∈as,M[a]?=Ya (.lst (eQ (g a)))
 fit:Et (as.map g)
theorem ZjA{k a:Nat}{g:GR}(hv:(Zc k) env S= .ok (.ref a) S)(ha:S[a]?=Ya (.lst (eQ g)))(F:gD g.1 g.2 ks):
  (cL fY vK (eC (.str [32])) (Za (dO (cN (Zc k)) 1 (cM env.length) [] (bB xW (Za (Zc env.length) (Zd)))) (Zd))) env S= .ok (.str (bH g)) (S++[.lst ((g.1::g.2.map Zi).map D.str)]):=by
 have hi:(cN (Zc k)) env S= .ok ⟨(eQ g).map (λd=>d),Ya a⟩ S:=by rw[List.map_id'];simp only[cN,hv,R3.bind,ha]
 have lc:=ZX (h:=strOf) (own:=1) (i:=env.length) (elt:=(bB xW (Za (Zc env.length) (Zd)))) hi (λn z=>by cases z;rw[List.map_id'];exact ha)
  (λd hd M'=>by
   refine gP (a:=d) (M1:=M') (by simp) ?_;rcases Y5.mp hd with e|hd
   .rw[e];rfl
   .obtain⟨i,hi,rfl⟩:=jb.mp hd;simp only[Z0,Z1,if_pos (Zql (F.num i hi)),strOf]) (by unfold eQ;rw[iC,Yn];have:=F.few.1;omega)
 rw[show(eQ g).map strOf=(g.1::g.2.map Zi).map D.str from ZmP g.1 g.2]at lc;exact yG rfl lc (ZkS (by simp) (Ys (QW F.few.1 F.few.2 F.num).1 (by decide)))
variable{g:Nat->GR}{r:Nat}{as:List Nat}
theorem ZoT(R:Rows M r as g):Ay [.ref r] M= .ok (.str (glue [10] ((as.map g).map bH))) M:=by
 have hi:(cN (Zc 0)) [Ya (.ref r)] M= .ok ⟨as.map D.ref,Ya r⟩ M:=by simp only[cN,Zc,jQ,R3.bind,R.aZ]
 have hz:as.length<=1000:=by have:=R.fit.few;rw[Yn]at this;exact this
 obtain⟨S,h1,⟨G,rfl⟩,h2⟩:=ZsT (own:=1) (i:=1) (elt:=(cL fY vK (eC (.str [32])) (Za (dO (cN (Zc 1)) 1 (cM 2) [] (bB xW (Za (Zc 2) (Zd)))) (Zd)))) (λd=>match d with| .ref a=>.str (bH (g a))|d=>d) hi (λn z=>by cases z;exact R.aZ) (by rw[Yn];exact hz)
  (λd hd S o=>by obtain⟨a,ha,rfl⟩:=jb.mp hd;have h1:=R.row a ha;obtain⟨ks,hk⟩:=R.fit.fit _ (Lz ha);exact⟨_,ZjA (env:=[Ya (.ref r),Ya (.ref a)]) (k:=1) rfl ((o a (mq h1)).trans h1) hk,Y8 _ _⟩)
 have e:(as.map D.ref).map (λd=>match d with| .ref a=>.str (bH (g a))|d=>d)=((as.map g).map bH).map D.str:=by rw[tu,tu,tu];rfl
 rw[e]at h2;refine Rt.pure (G:=G) (env:=[Ya (.ref r)]) ?_ rfl;unfold QT;exact lV (yG rfl h1 (ZkS h2 (Zg2 R.fit).2.1))
theorem Zky{x:List Nat}{ks:List (List Nat)}:∀{t:oU},tabAt x t=Ya ks->(x,ks)∈t
 |[],h=>nomatch h|(k,v)::t,h=>by
  unfold tabAt at h;by_cases e:x=k
  .rw[if_pos e]at h;cases h;rw[e];exact Y0 ..
  .rw[if_neg e]at h;exact Yx _ (Zky h)
variable{a:Nat}
theorem Znl{g:GR}(hr:M[r]?=Ya (.lst xs))(ha:M[a]?=Ya (.lst (eQ g)))(F:gD g.1 g.2 ks):
  (cu (e2 fJ (e2 Zv (Zc 1) (eC (.int 0))) (iH (Za (eC (.str [106,117,109,112])) (Za (eC (.str [119,104,101,110])) (Zd))))) (gA (e2 jY (e2 Zv (Zc 1) (e1 cA (eC (.int 1)))) (eC (.int 0))) (e2 vz (e2 Zv (Zc 1) (e1 cA (eC (.int 1)))) (bB cH (Za (Zc 0) (Zd)))))) [Ya (.ref r),Ya (.ref a)] M= .ok (.bl (!kh xs.length g)) M:=by
 obtain⟨nm,is⟩:=g;have i0:(e2 Zv (Zc 1) (eC (.int 0))) [Ya (.ref r),Ya (.ref a)] M= .ok (.str nm) M:=Zm rfl rfl (jG ha (jh _ 0));have hin:∀b,fJ (.str nm) (.tup [.str cR,.str dR]) M= .ok (.bl b) M->(e2 fJ (e2 Zv (Zc 1) (eC (.int 0))) (iH (Za (eC (.str [106,117,109,112])) (Za (eC (.str [119,104,101,110])) (Zd))))) [Ya (.ref r),Ya (.ref a)] M= .ok (.bl b) M:=λb h=>Zm i0 (zX rfl rfl) h;have no:fJ (.str nm) (.tup [.str cR,.str dR]) M= .ok (.bl false) M->kh xs.length (nm,is)=true->(cu (e2 fJ (e2 Zv (Zc 1) (eC (.int 0))) (iH (Za (eC (.str [106,117,109,112])) (Za (eC (.str [119,104,101,110])) (Zd))))) (gA (e2 jY (e2 Zv (Zc 1) (e1 cA (eC (.int 1)))) (eC (.int 0))) (e2 vz (e2 Zv (Zc 1) (e1 cA (eC (.int 1)))) (bB cH (Za (Zc 0) (Zd)))))) [Ya (.ref r),Ya (.ref a)] M= .ok (.bl (!kh xs.length (nm,is))) M:=λh1 h2=>by rw[DP (hin _ h1),h2];rfl
 have yes:∀(q:List Int) (v:Int),is=q++[v]->fJ (.str nm) (.tup [.str cR,.str dR]) M= .ok (.bl true) M->kh xs.length (nm,is)=inR xs.length v->(cu (e2 fJ (e2 Zv (Zc 1) (eC (.int 0))) (iH (Za (eC (.str [106,117,109,112])) (Za (eC (.str [119,104,101,110])) (Zd))))) (gA (e2 jY (e2 Zv (Zc 1) (e1 cA (eC (.int 1)))) (eC (.int 0))) (e2 vz (e2 Zv (Zc 1) (e1 cA (eC (.int 1)))) (bB cH (Za (Zc 0) (Zd)))))) [Ya (.ref r),Ya (.ref a)] M= .ok (.bl (!kh xs.length (nm,is))) M:=λq v e h1 h2=>by
  have l:(e2 Zv (Zc 1) (e1 cA (eC (.int 1)))) [Ya (.ref r),Ya (.ref a)] M= .ok (.int v) M:=by refine Zm rfl rfl (jG ha ?_);show dz (.str nm::is.map D.int) (-1)=_;rw[e,lJ];exact getD_last (D.str nm::q.map D.int) (D.int v)
  rw[lW (hin _ h1),h2];unfold inR;by_cases hv:v<0
  .rw[ZsC (M1:=M) (Zm l rfl (by simp only[zP,decide_eq_true hv])),decide_eq_false (by omega)];rfl
  .rw[zZ (M1:=M) (Zm l rfl (by simp only[zP,decide_eq_false hv]))];refine Zm l (gP rfl (zY hr)) ?_;simp only[Ov];by_cases h:v<(xs.length:Int)
   .rw[decide_eq_true (show 0<=v/\v<(xs.length:Int)from⟨by omega,h⟩),decide_eq_false (by omega)];rfl
   .rw[decide_eq_false (show¬(0<=v/\v<(xs.length:Int))by omega),decide_eq_true (by omega)];rfl
 have tb:=Zky F.tab;have hl:=F.len;dsimp only at hl;have zs:∀{α:Type} {l:List α},l.length=0->l=[]:=λh=>Ce h;simp only[jn,Y5,Prod.mk.injEq,uY,or_false]at tb;rcases tb with⟨rfl,rfl⟩|⟨rfl,rfl⟩|⟨rfl,rfl⟩|⟨rfl,rfl⟩|⟨rfl,rfl⟩|⟨rfl,rfl⟩|⟨rfl,rfl⟩|⟨rfl,rfl⟩|⟨rfl,rfl⟩|⟨rfl,rfl⟩
 .match is,hl with|[_,_],_=>exact no rfl rfl
 .match is,hl with|[_,_,_],_=>exact no rfl rfl
 .match is,hl with|[_,_,_],_=>exact no rfl rfl
 .match is,hl with|[_,_,_],_=>exact no rfl rfl
 .match is,hl with|[_,_],_=>exact no rfl rfl
 .match is,hl with|[_,_],_=>exact no rfl rfl
 .match is,hl with|[v],_=>exact yes [] v rfl rfl (by show(uq _ (ou,v)&&true)=_;unfold uq;cases inR xs.length v<;>rfl)
 .match is,hl with|[u,v],_=>exact yes [u] v rfl rfl ((show kh xs.length (dR,[u,v])=(true&&(uq xs.length (ou,v)&&true))from rfl).trans (by unfold uq;cases inR xs.length v<;>rfl))
 .match is,hl with|[_],_=>exact no rfl rfl
 .match is,hl with|[],_=>exact no rfl rfl
theorem ZkO(R:Rows M r as g):JX [.ref r] M= .ok (.bl (o7 (as.map g))) M:=by
 have nz:as≠[]:=λz=>R.fit.ne (by rw[z];rfl);obtain⟨q,a,e⟩:∃q a,as=q++[a]:=⟨_,_,(Gp nz).symm⟩;have gl:(as.map g).getLast?=Ya (g a):=by rw[e];simp
 have lp:=J6 (enc:=D.ref) (it:=⟨as.map D.ref,Ya r⟩) (g:=cM 1) (o:=.rt (.bl false) M) (ho:=.inr ⟨_,_,rfl⟩)
  (body:=(bD (cu (e2 fJ (e2 Zv (Zc 1) (eC (.int 0))) (iH (Za (eC (.str [106,117,109,112])) (Za (eC (.str [119,104,101,110])) (Zd))))) (gA (e2 jY (e2 Zv (Zc 1) (e1 cA (eC (.int 1)))) (eC (.int 0))) (e2 vz (e2 Zv (Zc 1) (e1 cA (eC (.int 1)))) (bB cH (Za (Zc 0) (Zd)))))) (bG (eC (.bl false))) (bT)))
  (P:=λenv M'=>∃x,env=[Ya (.ref r),x]/\M=M') (λa=>kh as.length (g a))
  (λenv M' hp=>by obtain⟨x,rfl,rfl⟩:=hp;simp only[locked,R.aZ,decide_true]) as [Ya (.ref r),Yi] M ⟨Yi,rfl,rfl⟩
  (λa ha env M' hp=>by
   obtain⟨x,rfl,rfl⟩:=hp;obtain⟨ks,hk⟩:=R.fit.fit _ (Lz ha);have c:=Znl R.aZ (R.row a ha) hk;rw[Yn]at c;refine⟨_,rfl,λh=>?_,λh=>?_⟩
   .rw[h]at c;exact⟨_,M,nJ c,_,rfl,rfl⟩
   .rw[h]at c;exact(vJ c).trans rfl)
 have it:(cN (Zc 0)) [Ya (.ref r),Yi] M= .ok ⟨as.map D.ref,Ya r⟩ M:=by simp only[cN,Zc,jQ,R3.bind,R.aZ]
 have gB:o7 (as.map g)=(yI (g a)&&as.all λa=>kh as.length (g a)):=by unfold o7;rw[gl,Yn,GD];rfl
 have rt:JV [Ya (.ref r),Yi] M= .rt (.bl (o7 (as.map g))) M:=by
  unfold JV;rw[gB];cases h:(as.all λa=>kh as.length (g a))with
  |false=>rw[Vo];exact I_ ((O6 it).trans (lp.2 h))|true=>
   obtain⟨e',M',h2,x,rfl,rfl⟩:=lp.1 h;refine(Zy ((O6 it).trans h2)).trans (lV ?_);have l0:dz (as.map D.ref) (-1)=Ya (.ref a):=by rw[e,lJ];exact getD_last ..
   refine Zm (Zm (Zm rfl rfl (jG R.aZ l0)) rfl (jG (R.row a (by rw[e];simp)) (jh _ 0))) (zX rfl rfl) ?_;rw[Vr];simp only[fJ,ZK,ZL,yI];by_cases h1:(g a).1=hlt
   .rw[h1];rfl
   .by_cases h2:(g a).1=cR
    .rw[h2];rfl
    .have:decide ((g a).1=hlt\/(g a).1=cR)=false:=decide_eq_false λz=>z.elim h1 h2;rw[this];have h3:¬hlt=(g a).1:=λz=>h1 z.symm;have h4:¬cR=(g a).1:=λz=>h2 z.symm;simp[Om,d_,h3,h4]
 exact Rt.pure (G:=[]) (env:=[Ya (.ref r),Yi]) (by rw[gW];exact rt) rfl
theorem o8{o:MO}(h:M<+:S)(e:M[n]?=Ya o):S[n]?=Ya o:=by obtain⟨G,rfl⟩:=h;exact jF e G
def LE(f:E3)(env:Zt)(M:Store)(xs:List D):Prop:=∃n S,f env M= .ok (.ref n) S/\M<+:S/\S[n]?=Ya (.lst xs)
def LF(f:E3)(env:Zt)(M:Store)(xs:List D):Prop:=∃n S,f env M= .ok (.ref n) S/\M<+:S/\S[n]?=Ya (.lst xs)/\M.length<=n
def FL(F:F3)(ds:List D)(M:Store)(xs:List D):Prop:=∃n S,F ds M= .ok (.ref n) S/\M<+:S/\S[n]?=Ya (.lst xs)/\M.length<=n
def BL(M0:Store)(u:S3)(env:Zt)(M:Store)(xs:List D):Prop:=∃n S,u env M= .rt (.ref n) S/\M0<+:S/\S[n]?=Ya (.lst xs)/\M0.length<=n
theorem LF.le(h:LF f env M xs):LE f env M xs:=let⟨n,S,a,b,c,_⟩:=h;⟨n,S,a,b,c⟩
theorem Q7{m:Nat}{x y:List D}(h1:M[n]?=Ya (.lst x))(h2:M[m]?=Ya (.lst y))(hz:x.length+y.length<=900000):di (.ref n) (.ref m) M= .ok (.ref M.length) (M++[.lst (x++y)]):=by rw[ZnB,h1,h2];exact if_pos (Ys hz (by decide))
theorem LE.add{g:E3}{x y:List D}(hf:LE f env M x)(hg:∀S,M<+:S->LE g env S y)(hz:x.length+y.length<=900000):LF (e2 di f g) env M (x++y):=by obtain⟨n,S,h1,p1,g1⟩:=hf;obtain⟨m,S2,h2,p2,g2⟩:=hg S p1;exact⟨S2.length,S2++[.lst (x++y)],Zm h1 h2 (Q7 (o8 p2 g1) g2 hz),(p1.trans p2).trans (Y8 _ _),Zz _ _ _,(p1.trans p2).length_le⟩
theorem LF.lst{g:bW}{env:Zt}{M:Store}{ds:List D}(h:g env M= .ok ds M)(hl:decide (ds.length<=100)=true):LF (aB g) env M ds:=⟨M.length,M++[.lst ds],uo h hl,Y8 _ _,Zz _ _ _,Yq _⟩
variable{M0:Store}{u:S3}
theorem BL.set{i:Nat}{x xs:List D}(hf:LE f env M x)(hu:∀n S,M<+:S->S[n]?=Ya (.lst x)->BL M0 u (env.set i (Ya (.ref n))) S xs):BL M0 (Zw (aP i f) u) env M xs:=by obtain⟨n,S,h1,p1,g1⟩:=hf;obtain⟨m,S2,h2,r⟩:=hu n S p1 g1;exact⟨m,S2,(Zy (eF h1 rfl)).trans h2,r⟩
theorem BL.Tj{i:Nat}(hf:f env M= .ok d M)(hu:BL M0 u (env.set i (Ya d)) M xs):BL M0 (Zw (aP i f) u) env M xs:=by obtain⟨m,S2,h2,r⟩:=hu;exact⟨m,S2,(Zy (eF hf rfl)).trans h2,r⟩
theorem BL.ret(hf:LF f env M xs)(p:M0<+:M):BL M0 (bG f) env M xs:=by obtain⟨n,S,h1,p1,g1,l1⟩:=hf;exact⟨n,S,lV h1,p.trans p1,g1,Ys p.length_le l1⟩
theorem BL.skip{c:E3}{v:S3}(hc:c env M= .ok (.bl false) M)(hv:BL M0 v env M xs):BL M0 (Zw (bD c u bT) v) env M xs:=by obtain⟨n,S,h1,r⟩:=hv;exact⟨n,S,(Zy (nJ hc)).trans h1,r⟩
theorem BL.take{c:E3}{v w:S3}(hc:c env M= .ok (.bl true) M)(hu:BL M0 u env M xs):BL M0 (Zw (bD c u w) v) env M xs:=by obtain⟨n,S,h1,r⟩:=hu;exact⟨n,S,I_ ((vJ hc).trans h1),r⟩
theorem BL.step{v:S3}{env':Zt}(hu:u env M= .nx env' S)(hv:BL M0 v env' S xs):BL M0 (Zw u v) env M xs:=by obtain⟨n,S2,h1,r⟩:=hv;exact⟨n,S2,(Zy hu).trans h1,r⟩
theorem FL.of{ps:Nat}{body:S3}(h:BL M body env M xs)(hl:ds.length=ps)(he:ds.map Ya++Yt (n-ps) Yi=env):FL (dB ps n body) ds M xs:=by obtain⟨k,S,h1,p1,g1,l1⟩:=h;refine⟨k,S,(Ja (n:=n) h1 hl he).trans ?_,p1,g1,l1⟩;have hb:below M.length (.ref k)=false:=decide_eq_false (λz=>lB 2 25786650641 T1 z l1);rw[jg,hb];rfl
theorem Znf(n:Nat)(g:GR):bV (n+1) (aW g)=true:=by simp[aW,Br,Zog,Zn0,ZnY,Zpc,Zpk,ZnH,Zl1]
theorem Znb(rs:List GR):(rs.map aW).all (bV DEEP)=true:=by rw[GD,jT];exactλg _=>Znf _ g
noncomputable abbrev XS:List (List Nat):=[[66,97,100,67,117,116],[66,97,100,71,105,118,101,110],[66,97,100,82,111,119],[78,111,68,105,115,112,117,116,101],[78,111,82,111,108,108],[78,111,84,105,109,101],[83,112,101,110,116],[85,110,102,105,116]]
theorem Zmf(R:Rows M r as g):iQ [.ref r] M= .ok (.bl true) M:=by
 have hz:as.length<=1000:=by have:=R.fit.few;rw[Yn]at this;exact this
 have RR:=Zj3 R.fit M;have ar:∀x y z u,(t6 (Za (aN Ay (Za (Zc 0) (Zd))) (Zd))) [Ya (.ref r),x,y,z,u] M= .ok [.str (glue [10] ((as.map g).map bH))] M:=λx y z u=>QZ (Zx (qN rfl (ZoT R)) rfl);have cl:∀x y z u,(aN yu (t6 (Za (aN Ay (Za (Zc 0) (Zd))) (Zd)))) [Ya (.ref r),x,y,z,u] M=yu [.str (glue [10] ((as.map g).map bH))] M:=λx y z u=>by simp only[aN,ar,R3.bind]
 cases hg:o7 (as.map g)with
 | true=>
  obtain⟨S,h1,⟨G,rfl⟩,h2⟩:∃S,(dO (cN (Zc 0)) 1 (cM 5) [] (bB qK (Za (Zc 5) (Zd)))) [Ya (.ref r),Ya (.tup ((as.map g).map aW)),Ya .non,Yi,Yi] (M++[.lst ((as.map g).map aW)])= .ok (.ref (M++[MO.lst ((as.map g).map aW)]).length) S/\(M++[MO.lst ((as.map g).map aW)])<+:S/\S[(M++[MO.lst ((as.map g).map aW)]).length]?=Ya (.lst ((as.map D.ref).map λd=>match d with| .ref a=>aW (g a)|d=>d)):=
   ZsT (own:=1) (i:=5) (λd=>match d with| .ref a=>aW (g a)|d=>d) (lock:=Ya r) (by simp only[cN,Zc,jQ,R3.bind,jF R.aZ]) (λn z=>by cases z;exact jF R.aZ _) (by rw[Yn];exact hz)
    (λd hd S o=>by obtain⟨a,ha,rfl⟩:=jb.mp hd;have q:=jF (R.row a ha) [MO.lst ((as.map g).map aW)];exact⟨S,gP rfl (O9 ((o a (mq q)).trans q)),Ck _⟩)
  have e:(as.map D.ref).map (λd=>match d with| .ref a=>aW (g a)|d=>d)=(as.map g).map aW:=by rw[tu,tu];rfl
  rw[e]at h2;have rt:Az [Ya (.ref r),Yi,Yi,Yi,Yi] M= .rt (.bl true) (M++([.lst ((as.map g).map aW)]++G)):=by
   unfold Az;refine(Zy (eF rfl)).trans ((Zy (eF rfl)).trans ?_);refine(Zy (Zpb (eF ((cl _ _ _ _).trans (RR.1 hg))))).trans ?_;refine I_ ((vJ ((qN rfl (ZkO R)).trans (by rw[hg]))).trans (lV ?_));rw[lW (M1:=M) (Zm rfl rfl rfl),lW (M1:=M) (ji (op:=Dw .tuple) (f:=Zc 1) (a:=.tup ((as.map g).map aW)) (M1:=M) rfl rfl)];rw[←lH];have l0:(M++[MO.lst ((as.map g).map aW)]++G)[M.length]?=Ya (.lst ((as.map g).map aW)):=by rw[lH];exact Zz ..
   exact Zm (gP (M2:=M++[.lst ((as.map g).map aW)]) rfl rfl) h1 (Zoh l0 h2 (Znb _))
  exact Rt.pure (env:=[Ya (.ref r),Yi,Yi,Yi,Yi]) rt rfl
 | false=>
  obtain⟨S,hS⟩:∃S,S=M++[.lst ((as.map g).map aW),.lst (((as.map g).map bH).map D.str),.ins (0::nR) []]:=⟨_,rfl⟩;have hx:=RR.2 hg;rw[←hS]at hx;have gx:S[M.length+2]?=Ya (.ins (0::nR) []):=by rw[hS,xU];rfl
  have RS:Rows S r as g:=by rw[hS];exact⟨jF R.aZ _,λa ha=>jF (R.row a ha) _,R.fit⟩
  have no:∀{yes n:List (List Nat)} {M':Store} {x y z:Option D},M'[M.length+2]?=Ya (.ins (0::nR) [])->yes.contains nR=false->n.contains nR=true->(e1 (dD yes n) (Zc 2)) [Ya (.ref r),x,Ya (.ref (M.length+2)),y,z] M'= .ok (.bl false) M':=λh h1 h2=>ji rfl (Q4 h h1 h2);have ye:∀{yes n:List (List Nat)} {M':Store} {x y z:Option D},M'[M.length+2]?=Ya (.ins (0::nR) [])->yes.contains nR=true->(e1 (dD yes n) (Zc 2)) [Ya (.ref r),x,Ya (.ref (M.length+2)),y,z] M'= .ok (.bl true) M':=λh h1=>ji rfl (Q3 h h1);have fl:([.bl false,.bl false,.bl false]++[.bl false,.bl false,.bl false]:List D)=[.bl false,.bl false,.bl false,.bl false,.bl false,.bl false]:=rfl;have rt:∃G,Az [Ya (.ref r),Yi,Yi,Yi,Yi] M= .rt (.bl true) (S++G):=by
   unfold Az;have g2:=jF gx [MO.lst [.bl false,.bl false,.bl false]];have g3:=jF g2 [MO.lst [.bl false,.bl false,.bl false]];have g4:=jF g3 [MO.lst [.bl false,.bl false,.bl false,.bl false,.bl false,.bl false]];have a1:(S++[MO.lst [.bl false,.bl false,.bl false]]++[MO.lst [.bl false,.bl false,.bl false]])[S.length]?=Ya (.lst [.bl false,.bl false,.bl false]):=by rw[lH];exact Zz ..
   have a2:(S++[MO.lst [.bl false,.bl false,.bl false]]++[MO.lst [.bl false,.bl false,.bl false]])[(S++[MO.lst [.bl false,.bl false,.bl false]]).length]?=Ya (.lst [.bl false,.bl false,.bl false]):=Zz ..;have ad:=Q7 a1 a2 (by decide);rw[fl]at ad;refine⟨[MO.lst [.bl false,.bl false,.bl false]]++[MO.lst [.bl false,.bl false,.bl false]]++[MO.lst [.bl false,.bl false,.bl false,.bl false,.bl false,.bl false]],?_⟩;rw[←lH,←lH];refine(Zy (eF rfl)).trans ((Zy (eF rfl)).trans ((Zy (Zmi (ZmH ((cl _ _ _ _).trans hx)) rfl (eF rfl) rfl)).trans ((Zy (nJ ((qN rfl (ZkO RS)).trans (by rw[hg])))).trans ?_)));refine(Zy (eF (uo (Zx (no gx rfl rfl) (Zx (no gx rfl rfl) (Zx (no gx rfl rfl) rfl))) rfl))).trans ?_;refine(Zy (eF (Zm (f:=Zc 4) rfl (uo (Zx (no g2 rfl rfl) (Zx (no g2 rfl rfl) (Zx (no g2 rfl rfl) rfl))) rfl) ad))).trans ?_;refine(Zy (nJ ((zZ (M1:=S++[MO.lst [.bl false,.bl false,.bl false]]++[MO.lst [.bl false,.bl false,.bl false]]++[MO.lst [.bl false,.bl false,.bl false,.bl false,.bl false,.bl false]]) (gP rfl ?_)).trans (no g4 rfl rfl)))).trans ?_
   .rw[Av,Zz];rfl
   .exact lV ((lW (ye g4 rfl)).trans (ye g4 rfl))
  obtain⟨G,rt⟩:=rt;rw[hS,lH]at rt;exact Rt.pure (env:=[Ya (.ref r),Yi,Yi,Yi,Yi]) rt rfl
variable{b:Option Int}
theorem XJ{lo hi:tY}{a:Option Int}(h1:f env M= .ok (.tup xs) M)(h2:lo env M= .ok a M)(h3:hi env M= .ok b M):cG f lo hi env M= .ok (.tup (cutD xs a b)) M:=by simp only[cG,h1,h2,h3,R3.bind,qG,qH,qI,qJ]
theorem ZmF{lo hi:tY}{a:Option Int}(h1:f env M= .ok (.ref n) M)(hM:M[n]?=Ya (.lst xs))(h2:lo env M= .ok a M)(h3:hi env M= .ok b M):cG f lo hi env M= .ok (.ref M.length) (M++[.lst (cutD xs a b)]):=by simp only[cG,h1,h2,h3,R3.bind,qG,qH,qI,qJ,hM,alloc]
theorem dU{nm:List Nat}(h1:tabAt nm jn=Ya ks)(h2:ks.length=is.length)(h3:(iD is.length 3&&iD nm.length 4)=true)(h4:(nm.all λc=>decide (97<=c))=true)(h5:∀p∈ks.zip is,p.2.natAbs<10^60/\(p.1=bx->0<=p.2/\p.2<8)):gD nm is ks:=by
 have zg:∀(j:Nat) k n,ks[j]?=Ya k->is[j]?=Ya n->(k,n)∈ks.zip is:=λj k n a b=>uX (i:=j) (by rw[List.getElem?_zip_eq_some];exact⟨a,b⟩);refine⟨h1,h2,⟨w5 (Yaw.mp h3).1,w5 (Yaw.mp h3).2⟩,λc hc=>of_decide_eq_true (jT.mp h4 c hc),λn hn=>?_,λj n a b=>(h5 _ (zg j _ n a b)).2 rfl⟩;obtain⟨j,hj⟩:=Ci hn;have l:j<ks.length:=by rw[h2];exact mq hj
 exact(h5 _ (zg j _ n (lG l) hj)).1
abbrev FP(p:List Nat×Int):Prop:=p.2.natAbs<10^60/\(p.1=bx->0<=p.2/\p.2<8)
theorem dW:∀p∈([]:List (List Nat×Int)),FP p:=λ_ z=>nomatch z
theorem bQ{a:List Nat×Int}{l:List (List Nat×Int)}(h:FP a)(t:∀p∈l,FP p):∀p∈a::l,FP p:=λp hp=>by
 rcases Y5.mp hp with rfl|hp
 .exact h
 .exact t p hp
theorem ig(h:a<8):FP (bx,(a:Int)):=⟨by rw[Cr];exact tE h (by decide +kernel),λ_=>⟨xg _,by show(a:Int)<8;omega⟩⟩
theorem o9{v:Int}{k:List Nat}(h:v.natAbs<10^60)(hk:k≠bx):FP (k,v):=⟨h,λz=>absurd z hk⟩
theorem Zp4{r:vH}{l:List (dh×D)}(h:r env (M++[.dct []])= .ok l (M++[.dct []]))(hl:iD l.length 15=true):Dz r env M= .ok (.ref M.length) (M++[.dct (dictOf l)]):=by have e:(M++[MO.dct []]).set M.length (.dct (dictOf l))=M++[.dct (dictOf l)]:=Jb M _ 0 _;simp only[Dz,h,R3.bind,Zz,if_pos (w5 hl),e]
theorem Q8(i:Int)(j:Nat)(h:j<=1000/\i.natAbs<1000):nD (.int i) (.int (j:Int)) M= .ok (.int (i^j)) M:=by rw[ZF,if_pos ⟨xg _,by omega,h.2⟩];rfl
theorem Zre{j:Int}:xJ (.int i) (.int j) M= .ok (.int (i-j)) M:=rfl
theorem Zrs(c:Int)(m:Nat)(hm:0<m)(hb:m<=100)(M:Store):∃g ks,gD g.1 g.2 ks/\FL q_ [.int c,.int (m:Int)] M (eQ g):=by
 obtain⟨j,hj,lj⟩:=j9 c 12 (by decide);obtain⟨x,hx,lx⟩:=j9 (c / 12) 8 (by decide);obtain⟨y,hy,ly⟩:=j9 (c / 12 / 8) 8 (by decide);obtain⟨z,hz,lz⟩:=j9 (c / 12 / 64) 8 (by decide);obtain⟨u,hu,lu⟩:=j9 (c / 12) m hm;obtain⟨v,hv,lv⟩:=j9 (c / 12 / 8) m hm;have hj':c % 12=(j:Int):=hj;have hx':c / 12 % 8=(x:Int):=hx;have hy':c / 12 / 8 % 8=(y:Int):=hy;have hz':c / 12 / 64 % 8=(z:Int):=hz;have nu:((u:Nat):Int).natAbs<10^60:=by rw[Cr];exact Yw (Yw lu hb) (by decide +kernel)
 have nv:((v:Nat):Int).natAbs<10^60:=by rw[Cr];exact Yw (Yw lv hb) (by decide +kernel)
 have np:(c / 12 / 8 % 10^20-10^10:Int).natAbs<10^60:=by have h1:0<=c / 12 / 8 % 10^20:=Mw _ (by decide);have h2:c / 12 / 8 % 10^20<10^20:=Mu _ (by decide);omega
 obtain⟨NS,kI⟩:∃NS:List D,NS=[.str [112,117,116],.str [97,100,100],.str [115,117,98],.str [109,111,114,101],.str [103,101,116],.str [115,101,116],.str [106,117,109,112],.str [119,104,101,110],.str [116,101,108,108],.str [104,97,108,116],.str [106,117,109,112],.str [119,104,101,110]]:=⟨_,rfl⟩;have pre:∀(nm:List Nat) (xs:List D),NS[j]?=Ya (.str nm)->(∀n2 n5 S,M<+:S->S[n5]?=Ya (.lst [.int (x:Int),.int (y:Int),.int (z:Int)])->BL M (Zw (bD (e2 cQ (Zc 3) (eC (.str [112,117,116]))) (bG (aB (Za (Zc 3) (Za (e2 Zv (Zc 5) (eC (.int 0))) (Za (e2 xJ (e2 bO (e2 cF (Zc 4) (eC (.int 8))) (e2 nD (eC (.int 10)) (eC (.int 20)))) (e2 nD (eC (.int 10)) (eC (.int 10)))) (Zd)))))) (bT)) (Zw (bD (e2 cQ (Zc 3) (eC (.str [106,117,109,112]))) (bG (aB (Za (Zc 3) (Za (e2 bO (Zc 4) (Zc 1)) (Zd))))) (bT)) (Zw (bD (e2 cQ (Zc 3) (eC (.str [119,104,101,110]))) (bG (aB (Za (Zc 3) (Za (e2 Zv (Zc 5) (eC (.int 0))) (Za (e2 bO (e2 cF (Zc 4) (eC (.int 8))) (Zc 1)) (Zd)))))) (bT)) (Zw (aP 6 (Dz (fK (eC (.str [97,100,100])) (eC (.int 3)) (fK (eC (.str [115,117,98])) (eC (.int 3)) (fK (eC (.str [109,111,114,101])) (eC (.int 3)) (fK (eC (.str [103,101,116])) (eC (.int 2)) (fK (eC (.str [115,101,116])) (eC (.int 2)) (fK (eC (.str [116,101,108,108])) (eC (.int 1)) (fK (eC (.str [104,97,108,116])) (eC (.int 0)) (Iz)))))))))) (bG (e2 di (aB (Za (Zc 3) (Zd))) (cG (Zc 5) (eE) (b_ (e2 xQ (Zc 6) (Zc 3)))))))))) [Ya (.int c),Ya (.int (m:Int)),Ya (.ref n2),Ya (.str nm),Ya (.int (c / 12)),Ya (.ref n5),Yi] S xs)->FL q_ [.int c,.int (m:Int)] M xs:=λnm xs h1 h2=>by refine FL.of (env:=[Ya (.int c),Ya (.int (m:Int)),Yi,Yi,Yi,Yi,Yi]) ?_ rfl rfl;unfold QR;refine BL.set (x:=NS) (LF.le (LF.lst (by rw[kI];rfl) (by rw[kI];rfl))) λn2 S pS gS=>?_;refine BL.Tj (d:=.str nm) (Zm rfl (Zm rfl rfl ((gZ (by decide)).trans (by rw[hj']))) (jG gS ((jh _ _).trans h1))) ?_;refine BL.Tj (d:=.int (c / 12)) (Zm rfl rfl (mj (by decide))) ?_;refine BL.set (x:=[.int (x:Int),.int (y:Int),.int (z:Int)]) (LF.le (LF.lst (Zx (Zm rfl rfl ((gZ (by decide)).trans (by rw[hx']))) (Zx (Zm (Zm rfl rfl (mj (by decide))) rfl ((gZ (by decide)).trans (by rw[hy']))) (Zx (Zm (Zm rfl rfl (mj (by decide))) rfl ((gZ (by decide)).trans (by rw[hz']))) rfl))) rfl)) λn5 S' J7 g5=>?_;exact h2 n2 n5 S' (pS.trans J7) g5
 have fin:∀(nm:List Nat) (k:Nat) (is:List Int) (ks:List (List Nat)),NS[j]?=Ya (.str nm)->nm≠[112,117,116]->nm≠cR->nm≠dR->vB (dictOf [(Sum.inr [97,100,100],.int 3),(Sum.inr [115,117,98],.int 3),(Sum.inr [109,111,114,101],.int 3),(Sum.inr [103,101,116],.int 2),(Sum.inr [115,101,116],.int 2),(Sum.inr [116,101,108,108],.int 1),(Sum.inr [104,97,108,116],.int 0)]) (Sum.inr nm)=Ya (.int (k:Int))->[D.int (x:Int),.int (y:Int),.int (z:Int)].take k=is.map D.int->gD nm is ks->∃g ks,gD g.1 g.2 ks/\FL q_ [.int c,.int (m:Int)] M (eQ g):=λnm k is ks h1 n1 n2 n3 hd ht F=>by
  refine⟨(nm,is),ks,F,pre nm _ h1 λa2 a5 S pS g5=>?_⟩;refine BL.skip (Zm rfl rfl ((eq_str _ _ _).trans (by rw[decide_eq_false n1]))) (BL.skip (Zm rfl rfl ((eq_str _ _ _).trans (by rw[decide_eq_false n2]))) (BL.skip (Zm rfl rfl ((eq_str _ _ _).trans (by rw[decide_eq_false n3]))) ?_));have d1:=Zp4 (M:=S) (env:=[Ya (.int c),Ya (.int (m:Int)),Ya (.ref a2),Ya (.str nm),Ya (.int (c / 12)),Ya (.ref a5),Yi]) (r:=(fK (eC (.str [97,100,100])) (eC (.int 3)) (fK (eC (.str [115,117,98])) (eC (.int 3)) (fK (eC (.str [109,111,114,101])) (eC (.int 3)) (fK (eC (.str [103,101,116])) (eC (.int 2)) (fK (eC (.str [115,101,116])) (eC (.int 2)) (fK (eC (.str [116,101,108,108])) (eC (.int 1)) (fK (eC (.str [104,97,108,116])) (eC (.int 0)) (Iz))))))))) rfl rfl;refine BL.step (eF d1) (BL.ret ?_ (pS.trans (Y8 _ _)));have l1:LF (aB (Za (Zc 3) (Zd))) [Ya (.int c),Ya (.int (m:Int)),Ya (.ref a2),Ya (.str nm),Ya (.int (c / 12)),Ya (.ref a5),Ya (.ref S.length)] (S++[MO.dct (dictOf [(Sum.inr [97,100,100],.int 3),(Sum.inr [115,117,98],.int 3),(Sum.inr [109,111,114,101],.int 3),(Sum.inr [103,101,116],.int 2),(Sum.inr [115,101,116],.int 2),(Sum.inr [116,101,108,108],.int 1),(Sum.inr [104,97,108,116],.int 0)])]) [.str nm]:=LF.lst rfl rfl;refine LE.add (x:=[.str nm]) (y:=is.map D.int) (LF.le l1) (λS' J7=>?_) ?_
  .have g6:=o8 J7 (jF g5 _);have gd:=o8 J7 (Zz S _ []);have ix:(b_ (e2 xQ (Zc 6) (Zc 3))) [Ya (.int c),Ya (.int (m:Int)),Ya (.ref a2),Ya (.str nm),Ya (.int (c / 12)),Ya (.ref a5),Ya (.ref S.length)] S'= .ok (Ya (k:Int)) S':=by
    have q:(e2 xQ (Zc 6) (Zc 3)) [Ya (.int c),Ya (.int (m:Int)),Ya (.ref a2),Ya (.str nm),Ya (.int (c / 12)),Ya (.ref a5),Ya (.ref S.length)] S'= .ok (.int (k:Int)) S':=Zm rfl rfl (by rw[ZM,gd];show(match vB _ (Sum.inr nm)with|some d=>R3.ok d S'|none=>.bad)=_;rw[hd]);simp only[b_,q,R3.bind]
   have s:=ZmF (f:=Zc 5) (lo:=eE) (hi:=(b_ (e2 xQ (Zc 6) (Zc 3)))) (env:=[Ya (.int c),Ya (.int (m:Int)),Ya (.ref a2),Ya (.str nm),Ya (.int (c / 12)),Ya (.ref a5),Ya (.ref S.length)]) (a:=Yi) rfl g6 rfl ix;rw[ZmB,ht]at s;exact⟨_,_,s,Y8 _ _,Zz _ _ _⟩
  .rw[Yn];have:=F.few.1;simp only[mX];omega
 have c12:j=0\/j=1\/j=2\/j=3\/j=4\/j=5\/j=6\/j=7\/j=8\/j=9\/j=10\/j=11:=by omega
 have i0:∀{a b d e f:Option D} {n5:Nat} {S:Store},S[n5]?=Ya (.lst [.int (x:Int),.int (y:Int),.int (z:Int)])->(e2 Zv (Zc 5) (eC (.int 0))) [a,b,d,e,f,Ya (.ref n5),Yi] S= .ok (.int (x:Int)) S:=λg=>Zm rfl rfl (jG g (jh _ 0));have jump:NS[j]?=Ya (.str cR)->∃g ks,gD g.1 g.2 ks/\FL q_ [.int c,.int (m:Int)] M (eQ g):=λh=>by refine⟨(cR,[(u:Int)]),[ou],dU rfl rfl rfl rfl (bQ (o9 nu (by decide)) dW),pre cR _ h λa2 a5 S pS g5=>?_⟩;refine BL.skip (Zm rfl rfl ((eq_str _ _ _).trans rfl)) (BL.take (Zm rfl rfl ((eq_str _ _ _).trans rfl)) (BL.ret (LF.lst (Zx rfl (Zx (Zm rfl rfl ((gZ (by omega)).trans (by rw[hu]))) rfl)) rfl) pS))
 have when:NS[j]?=Ya (.str dR)->∃g ks,gD g.1 g.2 ks/\FL q_ [.int c,.int (m:Int)] M (eQ g):=λh=>by refine⟨(dR,[(x:Int),(v:Int)]),[bx,ou],dU rfl rfl rfl rfl (bQ (ig lx) (bQ (o9 nv (by decide)) dW)),pre dR _ h λa2 a5 S pS g5=>?_⟩;refine BL.skip (Zm rfl rfl ((eq_str _ _ _).trans rfl)) (BL.skip (Zm rfl rfl ((eq_str _ _ _).trans rfl)) (BL.take (Zm rfl rfl ((eq_str _ _ _).trans rfl)) (BL.ret (LF.lst (Zx rfl (Zx (i0 g5) (Zx (Zm (Zm rfl rfl (mj (by decide))) rfl ((gZ (by omega)).trans (by rw[hv]))) rfl))) rfl) pS)))
 rcases c12 with rfl|rfl|rfl|rfl|rfl|rfl|rfl|rfl|rfl|rfl|rfl|rfl
 .refine⟨([112,117,116],[(x:Int),c / 12 / 8 % 10^20-10^10]),[bx,[110,117,109,98,101,114]],dU rfl rfl rfl rfl (bQ (ig lx) (bQ (o9 np (by decide)) dW)),pre [112,117,116] _ (by rw[kI];rfl) λa2 a5 S pS g5=>?_⟩;refine BL.take (Zm rfl rfl ((eq_str _ _ _).trans rfl)) (BL.ret (LF.lst (Zx rfl (Zx (i0 g5) (Zx (Zm (Zm (Zm rfl rfl (mj (by decide))) (Zm rfl rfl (Q8 10 20 (by decide))) (gZ (by decide))) (Zm rfl rfl (Q8 10 10 (by decide))) Zre) rfl))) rfl) pS)
 .exact fin [97,100,100] 3 [(x:Int),y,z] [bx,bx,bx] (by rw[kI];rfl) (by decide) (by decide) (by decide) rfl rfl (dU rfl rfl rfl rfl (bQ (ig lx) (bQ (ig ly) (bQ (ig lz) dW))))
 .exact fin [115,117,98] 3 [(x:Int),y,z] [bx,bx,bx] (by rw[kI];rfl) (by decide) (by decide) (by decide) rfl rfl (dU rfl rfl rfl rfl (bQ (ig lx) (bQ (ig ly) (bQ (ig lz) dW))))
 .exact fin [109,111,114,101] 3 [(x:Int),y,z] [bx,bx,bx] (by rw[kI];rfl) (by decide) (by decide) (by decide) rfl rfl (dU rfl rfl rfl rfl (bQ (ig lx) (bQ (ig ly) (bQ (ig lz) dW))))
 .exact fin [103,101,116] 2 [(x:Int),y] [bx,bx] (by rw[kI];rfl) (by decide) (by decide) (by decide) rfl rfl (dU rfl rfl rfl rfl (bQ (ig lx) (bQ (ig ly) dW)))
 .exact fin [115,101,116] 2 [(x:Int),y] [bx,bx] (by rw[kI];rfl) (by decide) (by decide) (by decide) rfl rfl (dU rfl rfl rfl rfl (bQ (ig lx) (bQ (ig ly) dW)))
 .exact jump (by rw[kI];rfl)
 .exact when (by rw[kI];rfl)
 .exact fin [116,101,108,108] 1 [(x:Int)] [bx] (by rw[kI];rfl) (by decide) (by decide) (by decide) rfl rfl (dU rfl rfl rfl rfl (bQ (ig lx) dW))
 .exact fin hlt 0 [] [] (by rw[kI];rfl) (by decide) (by decide) (by decide) rfl rfl (dU rfl rfl rfl rfl dW)
 .exact jump (by rw[kI];rfl)
 .exact when (by rw[kI];rfl)
def eU(S:Store)(a:Nat):Prop:=∃g ks,S[a]?=Ya (.lst (eQ g))/\gD g.1 g.2 ks
structure cX(S:Store)(r:Nat)(as:List Nat):Prop where
 aZ:S[r]?=Ya (.lst (as.map D.ref))
 row:∀a∈as,eU S a
 ne:as≠[]
 few:as.length<=1000
theorem ZoD{g:GR}(h:eQ g=as.map D.ref):False:=by
 cases as with
 |nil=>cases h|cons a as=>exact nomatch(oJ h).1
theorem eU.ne(h:eU S a)(hr:S[r]?=Ya (.lst (as.map D.ref))):a≠r:=λe=>by obtain⟨g,ks,h1,_⟩:=h;rw[e,hr]at h1;exact ZoD (MO.lst.inj (Y3 h1)).symm
theorem eU.set{o:MO}(h:eU S a)(hn:a≠r):eU (S.set r o) a:=by obtain⟨g,ks,h1,F⟩:=h;exact⟨g,ks,by rw[jw (cP hn)];exact h1,F⟩
theorem eU.pre{S':Store}(h:eU S a)(p:S<+:S'):eU S' a:=let⟨g,ks,h1,F⟩:=h;⟨g,ks,o8 p h1,F⟩
theorem cX.pre{S':Store}(R:cX S r as)(p:S<+:S'):cX S' r as:=⟨o8 p R.aZ,λa ha=>(R.row a ha).pre p,R.ne,R.few⟩
theorem cX.put{as bs:List Nat}(R:cX S r as)(hb:∀b∈bs,eU S b)(hn:bs≠[])(hf:bs.length<=1000):cX (S.set r (.lst (bs.map D.ref))) r bs:=⟨jR (mq R.aZ),λb h=>(hb b h).set ((hb b h).ne R.aZ),hn,hf⟩
theorem cX.oth{q:Nat}{as bs:List Nat}(R:cX S r as)(hq:S[q]?=Ya (.lst (bs.map D.ref)))(hn:r≠q)(o:MO):cX (S.set q o) r as:=⟨by rw[jw (cP hn)];exact R.aZ,λa h=>(R.row a h).set ((R.row a h).ne hq),R.ne,R.few⟩
theorem cX.chg{b:Nat}{g:GR}(R:cX S r as)(hb:eU S b)(F:gD g.1 g.2 ks):cX (S.set b (.lst (eQ g))) r as:=by
 have hn:=hb.ne R.aZ;obtain⟨_,_,h1,_⟩:=hb;refine⟨by rw[jw hn];exact R.aZ,λa h=>?_,R.ne,R.few⟩;by_cases e:a=b
 .rw[e];exact⟨g,ks,jR (mq h1),F⟩
 .exact(R.row a h).set e
theorem Eu(R:cX S r as):iQ [.ref r] S= .ok (.bl true) S:=by
 obtain⟨g,hg⟩:∃g:Nat->GR,∀a,eU S a->S[a]?=Ya (.lst (eQ (g a)))/\∃ks,gD (g a).1 (g a).2 ks:=by
  refine Vg (r:=λa g=>eU S a->S[a]?=Ya (.lst (eQ g))/\∃ks,gD g.1 g.2 ks) λa=>?_;by_cases h:eU S a
  .obtain⟨g,ks,h1,F⟩:=h;exact⟨g,λ_=>⟨h1,ks,F⟩⟩
  .exact⟨([],[]),λz=>absurd z h⟩
 refine Zmf (as:=as) (g:=g) ⟨R.aZ,λa ha=>(hg a (R.row a ha)).1,⟨λx hx=>?_,by rw[Yn];exact R.few,λz=>R.ne (Gu.mp z)⟩⟩;obtain⟨a,ha,rfl⟩:=jb.mp hx;exact(hg a (R.row a ha)).2
theorem Zhg(ns:List Int)(k:Nat)(M:Store):∃v:Int,yw [.aV (ns.map D.int),.int (k:Int)] M= .ok (.int v) M:=by
 by_cases h:k<ns.length
 .refine⟨ns[k],Rt.pure (G:=[]) (env:=[Ya (.aV (ns.map D.int)),Ya (.int (k:Int))]) ?_ rfl⟩;rw[gW];unfold JT;have c:jY (.int (k:Int)) (.int ((ns.map D.int).length:Int)) M= .ok (.bl true) M:=by rw[zP,decide_eq_true (by rw[Yn];omega)]
  refine I_ ((vJ (Zm rfl (gP (a:=.aV (ns.map D.int)) rfl rfl) c)).trans (lV (Zm rfl rfl ?_)))
  .have:dz (ns.map D.int) (k:Int)=Ya (.int ns[k]):=by rw[jh,gn,lG h];rfl
   simp only[Ox,Oz,OD,OJ,this]
 .refine⟨0,Rt.pure (G:=[]) (env:=[Ya (.aV (ns.map D.int)),Ya (.int (k:Int))]) ?_ rfl⟩;rw[gW];unfold JT;have c:jY (.int (k:Int)) (.int ((ns.map D.int).length:Int)) M= .ok (.bl false) M:=by rw[zP,decide_eq_false (by rw[Yn];omega)]
  exact(Zy (nJ (Zm rfl (gP (a:=.aV (ns.map D.int)) rfl rfl) c))).trans (lV rfl)
theorem ZmN(c:Int)(m:Nat)(hm:m<=200)(M:Store):∃v:Int,v.natAbs<10^60/\wz [.int c,.int (m:Int)] M= .ok (.int v) M:=by
 obtain⟨j,hj,lj⟩:=j9 c 4 (by decide);have hj':c % 4=(j:Int):=hj;have h1:0<=c / 4 % 10^50:=Mw _ (by decide);have h2:c / 4 % 10^50<10^50:=Mu _ (by decide);obtain⟨w,hw⟩:∃w,c / 4 % 10^50=w:=⟨_,rfl⟩;rw[hw]at h1 h2;have li:(aB (Za (Zc 1) (Za (e1 cA (eC (.int 1))) (Za (e2 di (e2 di (Zc 1) (eC (.int 1))) (e2 bO (e2 cF (Zc 0) (eC (.int 4))) (e2 nD (eC (.int 10)) (eC (.int 50))))) (Za (e2 xJ (e1 cA (eC (.int 1))) (e2 bO (e2 cF (Zc 0) (eC (.int 4))) (e2 nD (eC (.int 10)) (eC (.int 50))))) (Zd)))))) [Ya (.int c),Ya (.int (m:Int))] M= .ok (.ref M.length) (M++[.lst [.int (m:Int),.int (-1),.int ((m:Int)+1+w),.int (-1-w)]]):=by have q:(e2 bO (e2 cF (Zc 0) (eC (.int 4))) (e2 nD (eC (.int 10)) (eC (.int 50)))) [Ya (.int c),Ya (.int (m:Int))] M= .ok (.int w) M:=Zm (Zm rfl rfl (mj (by decide))) (Zm rfl rfl (Q8 10 50 (by decide))) ((gZ (by decide)).trans (by rw[hw]));exact uo (Zx rfl (Zx rfl (Zx (Zm (Zm rfl rfl rfl) q rfl) (Zx (Zm rfl q rfl) rfl)))) rfl
 have go:∀v:Int,[D.int (m:Int),.int (-1),.int ((m:Int)+1+w),.int (-1-w)][j]?=Ya (.int v)->wz [.int c,.int (m:Int)] M= .ok (.int v) M:=λv hv=>by refine Rt.pure (env:=[Ya (.int c),Ya (.int (m:Int))]) (G:=[.lst [.int (m:Int),.int (-1),.int ((m:Int)+1+w),.int (-1-w)]]) ?_ rfl;unfold QS;exact lV (Zm li (Zm rfl rfl ((gZ (by decide)).trans (by rw[hj']))) (jG (Zz ..) ((jh _ _).trans hv)))
 have l4:j=0\/j=1\/j=2\/j=3:=by omega
 rcases l4 with rfl|rfl|rfl|rfl
 .exact⟨_,by omega,go _ rfl⟩
 .exact⟨_,by decide,go _ rfl⟩
 .exact⟨_,by omega,go _ rfl⟩
 .exact⟨_,by omega,go _ rfl⟩
def kJ(Q:GR->Prop)(S:Store)(a:Nat):Prop:=∃g ks,S[a]?=Ya (.lst (eQ g))/\gD g.1 g.2 ks/\Q g
abbrev JW(g:GR):Prop:=g.1=cR\/g.1=dR
abbrev TQ(_:GR):Prop:=True
variable{Q:GR->Prop}
theorem kJ.pre{S':Store}(h:kJ Q S a)(p:S<+:S'):kJ Q S' a:=let⟨g,ks,h1,F,q⟩:=h;⟨g,ks,o8 p h1,F,q⟩
theorem kJ.row(h:kJ Q S a):eU S a:=let⟨g,ks,h1,F,_⟩:=h;⟨g,ks,h1,F⟩
def ur(Q:GR->Prop)(el:bW)(env:Zt)(S:Store)(n:Nat):Prop:=∃(bs:List Nat) (S':Store),el env S= .ok (bs.map D.ref) S'/\S<+:S'/\(∀b∈bs,kJ Q S' b)/\bs.length=n
theorem J8:ur Q Zd env S 0:=⟨[],S,rfl,Ck _,(λ_ z=>nomatch z),rfl⟩
theorem kO{el el':bW}(g:GR)(h:el env S= .ok (eQ g) S)(F:gD g.1 g.2 ks)(q:Q g)(t:∀S',S<+:S'->ur Q el' env S' n):ur Q (Za (aB el) el') env S (n+1):=by
 have l:=uo h (decide_eq_true (by unfold eQ;rw[iC,Yn];have:=F.few.1;omega));obtain⟨bs,S',h1,p1,r1,e1⟩:=t (S++[.lst (eQ g)]) (Y8 _ _);refine⟨S.length::bs,S',Zx l h1,(Y8 _ _).trans p1,λb hb=>?_,by rw[iC,e1]⟩;rcases Y5.mp hb with rfl|hb
 .exact⟨g,ks,o8 p1 (Zz ..),F,q⟩
 .exact r1 b hb
def LA(Q:GR->Prop)(f:E3)(env:Zt)(S:Store)(n:Nat):Prop:=∃(r:Nat) (bs:List Nat) (S':Store),f env S= .ok (.ref r) S'/\S<+:S'/\S'[r]?=Ya (.lst (bs.map D.ref))/\(∀b∈bs,kJ Q S' b)/\bs.length=n
theorem ur.lst{Q:GR->Prop}{el:bW}{env:Zt}{S:Store}{n:Nat}(h:ur Q el env S n)(hn:n<=100):LA Q (aB el) env S n:=by obtain⟨bs,S',h1,p1,r1,e1⟩:=h;exact⟨_,bs,_,uo h1 (decide_eq_true (by rw[Yn,e1];exact hn)),p1.trans (Y8 _ _),Zz ..,λb hb=>(r1 b hb).pre (Y8 _ _),e1⟩
def J9(Q:GR->Prop)(f:E3)(env:Zt)(S:Store)(n:Nat):Prop:=∃(r:Nat) (bs:List Nat) (S':Store),f env S= .ok (.ref r) S'/\S<+:S'/\S'[r]?=Ya (.lst (bs.map D.ref))/\(∀b∈bs,kJ Q S' b)/\bs.length=n/\S.length<=r
theorem J9.la(h:J9 Q f env S n):LA Q f env S n:=let⟨r,bs,S',a,b,c,d,e,_⟩:=h;⟨r,bs,S',a,b,c,d,e⟩
theorem LA.add{g:E3}{m:Nat}(hf:LA Q f env S n)(hg:∀S',S<+:S'->LA Q g env S' m)(hz:n+m<=1000):J9 Q (e2 di f g) env S (n+m):=by
 obtain⟨r,bs,S1,h1,p1,g1,r1,e1⟩:=hf;obtain⟨q,cs,S2,h2,p2,g2,r2,e2⟩:=hg S1 p1;have a:=Q7 (o8 p2 g1) g2 (by rw[Yn,Yn];omega);rw[←lJ]at a;refine⟨_,bs++cs,_,Zm h1 h2 a,p1.trans (p2.trans (Y8 _ _)),Zz ..,λb hb=>?_,by rw[Y4,e1,e2],(p1.trans p2).length_le⟩;rcases u0.mp hb with hb|hb
 .exact(r1 b hb).pre (p2.trans (Y8 _ _))
 .exact(r2 b hb).pre (Y8 _ _)
theorem LA.idx{i:E3}(h:LA Q f env S n)(hi:∀S',i env S'= .ok (.int (j:Int)) S')(hj:j<n):∃b S',e2 Zv f i env S= .ok (.ref b) S'/\S<+:S'/\kJ Q S' b:=by
 obtain⟨r,bs,S1,h1,p1,g1,r1,e1⟩:=h;have l:j<bs.length:=by rw[e1];exact hj
 refine⟨bs[j],S1,Zm h1 (hi S1) (jG g1 ?_),p1,r1 _ (sY l)⟩;rw[jh,gn,lG l];rfl
theorem ZoH(xs:List α)(x:α):jE (xs++[x]).length (-1)=Ya xs.length:=by rw[Y4,mX];simp[jE];exact⟨by omega,by omega⟩
theorem ZiS{b:Nat}(h:kJ JW S b){v:Int}(hv:v.natAbs<10^60):∃g ks,gD g.1 g.2 ks/\IK (.int v) (.ref b) (.int (-1)) S= .ok .non (S.set b (.lst (eQ g))):=by
 obtain⟨⟨nm,is⟩,ks,h1,F,q⟩:=h;have tb:=F.tab;have hl:=F.len;rcases q with q|q
 .obtain rfl:nm=cR:=q;obtain rfl:[ou]=ks:=Y3 tb
  match is,hl with
  |[u],_=>exact⟨(cR,[v]),[ou],dU rfl rfl rfl rfl (bQ (o9 hv (by decide)) dW),by rw[IV,h1];rfl⟩
 .obtain rfl:nm=dR:=q;obtain rfl:[bx,ou]=ks:=Y3 tb
  match is,hl,F with
  |[x,u],_,F=>exact⟨(dR,[x,v]),[bx,ou],dU rfl rfl rfl rfl (bQ ⟨F.num x (by simp),λ_=>F.box 0 x rfl rfl⟩ (bQ (o9 hv (by decide)) dW)),by rw[IV,h1];rfl⟩
theorem Zkl{b:Nat}(R:cX S r as)(hb:eU S b):∃bs:List Nat,IK (.ref b) (.ref r) (.int (-1)) S= .ok .non (S.set r (.lst (bs.map D.ref)))/\cX (S.set r (.lst (bs.map D.ref))) r bs:=by
 obtain⟨q,a,rfl⟩:∃q a,as=q++[a]:=⟨_,_,(Gp R.ne).symm⟩;refine⟨q++[b],?_,R.put (λx hx=>?_) (by simp) (by have:=R.few;simpa using this)⟩
 .rw[IV,R.aZ];simp only[lJ,Yy,sZ,ZoH];rw[UG _ _ (Yq _),Nat.sub_self];rfl
 .rcases u0.mp hx with hx|hx
  .exact R.row x (uW _ hx)
  .rw[wY.mp hx];exact hb
theorem Zjd(R:cX S r as):∃a,eU S a/\Zv (.ref r) (.int (-1)) S= .ok (.ref a) S:=by obtain⟨q,a,rfl⟩:∃q a,as=q++[a]:=⟨_,_,(Gp R.ne).symm⟩;exact⟨a,R.row a (by simp),jG R.aZ (by rw[lJ];exact getD_last ..)⟩
theorem Zqs{g:bW}{M M1:Store}(h:g env M= .ok [d] M1):iM c g env M= .ok (.ref M1.length) (M1++[.ins (0::c) []]):=by rw[iM,h]
theorem Zok{f:List Nat}(h:M[n]?=Ya (.ins (0::c) [(f,d)])):En c f (.ref n) M= .ok d M:=by rw[En,h];exact(if_pos rfl).trans (if_pos rfl)
theorem Zo8(M:Store)(d:D)(M':Store):∃M2,jg M d M'= .ok d M2:=by
 unfold jg;split
 .exact⟨_,rfl⟩
 .exact⟨_,rfl⟩
def Ew(S:Store)(a:Nat):Prop:=∃c,S[a]?=Ya (.ins (0::c) [])/\XS.contains c=true/\[[66,97,100,82,111,119]].contains c=false/\[[66,97,100,67,117,116],[66,97,100,71,105,118,101,110],[78,111,68,105,115,112,117,116,101],[78,111,82,111,108,108],[78,111,84,105,109,101],[83,112,101,110,116],[85,110,102,105,116]].contains c=true/\[[85,110,102,105,116]].contains c=false/\[[66,97,100,67,117,116],[66,97,100,71,105,118,101,110],[66,97,100,82,111,119],[78,111,68,105,115,112,117,116,101],[78,111,82,111,108,108],[78,111,84,105,109,101],[83,112,101,110,116]].contains c=true
theorem Bt{el:bW}(n:Nat)(h:∀{S},S[S.length]?=Yi->Ew (S++[.ins (0::c) []]) S.length)(t:∀S',∃(bs:List Nat) (S2:Store),el env S'= .ok (bs.map D.ref) S2/\S'<+:S2/\(∀b∈bs,Ew S2 b)/\bs.length<=n):∃(bs:List Nat) (S2:Store),Za (iM c (Za (eC (.str [120])) (Zd))) el env S= .ok (bs.map D.ref) S2/\S<+:S2/\(∀b∈bs,Ew S2 b)/\bs.length<=n+1:=by
 obtain⟨bs,S',h1,p1,r1,l1⟩:=t (S++[.ins (0::c) []]);refine⟨S.length::bs,S',Zx (Zqs rfl) h1,(Y8 _ _).trans p1,λb hb=>?_,GP l1⟩;rcases Y5.mp hb with rfl|hb
 .obtain⟨c',q,z⟩:=h (List.getElem?_eq_none (Yq _));exact⟨c',o8 p1 q,z⟩
 .exact r1 b hb
theorem ZoW(M:Store):∃M',A_ [] M= .ok (.bl true) M':=by
 obtain⟨bs,S,h1,p1,r1,l1⟩:∃(bs:List Nat) (S2:Store),(Za (iM [78,111,82,111,108,108] (Za (eC (.str [120])) (Zd))) (Za (iM [66,97,100,67,117,116] (Za (eC (.str [120])) (Zd))) (Za (iM [78,111,84,105,109,101] (Za (eC (.str [120])) (Zd))) (Za (iM [78,111,68,105,115,112,117,116,101] (Za (eC (.str [120])) (Zd))) (Za (iM [66,97,100,71,105,118,101,110] (Za (eC (.str [120])) (Zd))) (Za (iM [83,112,101,110,116] (Za (eC (.str [120])) (Zd))) (Zd))))))) [Yi,Yi,Yi] M= .ok (bs.map D.ref) S2/\M<+:S2/\(∀b∈bs,Ew S2 b)/\bs.length<=5+1:=by refine Bt 5 (λ_=>⟨_,Zz ..,rfl,rfl,rfl,rfl,rfl⟩) λS1=>Bt 4 (λ_=>⟨_,Zz ..,rfl,rfl,rfl,rfl,rfl⟩) λS2=>Bt 3 (λ_=>⟨_,Zz ..,rfl,rfl,rfl,rfl,rfl⟩) λS3=>Bt 2 (λ_=>⟨_,Zz ..,rfl,rfl,rfl,rfl,rfl⟩) λS4=>Bt 1 (λ_=>⟨_,Zz ..,rfl,rfl,rfl,rfl,rfl⟩) λS5=>Bt 0 (λ_=>⟨_,Zz ..,rfl,rfl,rfl,rfl,rfl⟩) λS6=>⟨[],S6,rfl,Ck _,(λ_ z=>nomatch z),Yq _⟩
 have l:=uo h1 (decide_eq_true (by rw[Yn];omega));obtain⟨T,hT⟩:∃T,T=S++[MO.lst (bs.map D.ref)]:=⟨_,rfl⟩;rw[←hT]at l;have gT:T[S.length]?=Ya (.lst (bs.map D.ref)):=by rw[hT];exact Zz ..
 have rT:∀b∈bs,Ew T b:=λb hb=>by obtain⟨c,q,z⟩:=r1 b hb;exact⟨c,by rw[hT];exact jF q _,z⟩
 have lp:=J6 (enc:=D.ref) (it:=⟨bs.map D.ref,Ya S.length⟩) (g:=cM 1) (o:=.rt .non T) (ho:=.inr ⟨_,_,rfl⟩)
  (body:=(bD (gA (e1 fX (e1 (dD [[66,97,100,67,117,116],[66,97,100,71,105,118,101,110],[66,97,100,82,111,119],[78,111,68,105,115,112,117,116,101],[78,111,82,111,108,108],[78,111,84,105,109,101],[83,112,101,110,116],[85,110,102,105,116]] []) (Zc 1))) (gA (e1 (dD [[66,97,100,82,111,119]] [[66,97,100,67,117,116],[66,97,100,71,105,118,101,110],[78,111,68,105,115,112,117,116,101],[78,111,82,111,108,108],[78,111,84,105,109,101],[83,112,101,110,116],[85,110,102,105,116]]) (Zc 1)) (e1 (dD [[85,110,102,105,116]] [[66,97,100,67,117,116],[66,97,100,71,105,118,101,110],[66,97,100,82,111,119],[78,111,68,105,115,112,117,116,101],[78,111,82,111,108,108],[78,111,84,105,109,101],[83,112,101,110,116]]) (Zc 1)))) (bG (eC (.bl false))) (bT)))
  (P:=λenv M'=>∃x,env=[Ya (.ref S.length),x,Yi]/\T=M') (λ_=>true)
  (λenv M' hp=>by obtain⟨x,rfl,rfl⟩:=hp;simp only[locked,gT,decide_true]) bs [Ya (.ref S.length),Yi,Yi] T ⟨Yi,rfl,rfl⟩
  (λa ha env M' hp=>by obtain⟨x,rfl,rfl⟩:=hp;obtain⟨c,q,z1,z2,z3,z4,z5⟩:=rT a ha;refine⟨_,rfl,λ_=>⟨_,T,nJ ((zZ (M1:=T) (ji (ji rfl (Q3 q z1)) rfl)).trans ((zZ (M1:=T) (ji rfl (Q4 q z2 z3))).trans (ji rfl (Q4 q z4 z5)))),_,rfl,rfl⟩,(λz=>nomatch z)⟩)
 obtain⟨e',M',h2,x,rfl,rfl⟩:=lp.1 (jT.mpr λ_ _=>rfl);have rt:Rt (JZ [Yi,Yi,Yi] M) (.bl true):=by unfold JZ;refine Rt.set l (Rt.loop (it:=⟨bs.map D.ref,Ya S.length⟩) (by simp only[cN,Zc,jQ,R3.bind,gT]) h2 (Rt.set (d:=.ref T.length) (M':=T++[.ins (0::[85,110,102,105,116]) [([102,97,117,108,116],.tup [.str [115,116,101,112],.int 5])]]) (by rw[Em,Zx (zX rfl rfl) rfl];rfl) (Rt.ret ((lW (ji rfl (Q3 (Zz ..) rfl))).trans (Zm (ji rfl (Zok (Zz ..))) (zX rfl rfl) rfl)))))
 obtain⟨M',rt⟩:=rt;obtain⟨M2,h3⟩:=Zo8 M (.bl true) M';exact⟨M2,(Ja (ps:=0) (n:=3) (ds:=[]) (env:=[Yi,Yi,Yi]) rt).trans h3⟩
variable{r4 r5:Nat}{ir fj:List Nat}
theorem ZtB(R4:cX S r4 ir)(R5:cX S r5 fj)(hn:r5≠r4)(s:Int)(d0 d1 d3 d6 d7 d8:Option D):
  Rt ((Zw (aP 9 (aB (Za (aB (Za (eC (.str [112,117,116])) (Za (eC (.int 0)) (Za (eC (.int 5)) (Zd))))) (Za (aB (Za (eC (.str [97,100,100])) (Za (eC (.int 1)) (Za (eC (.int 2)) (Za (eC (.int 3)) (Zd)))))) (Za (aB (Za (eC (.str [115,117,98])) (Za (eC (.int 7)) (Za (eC (.int 7)) (Za (eC (.int 7)) (Zd)))))) (Za (aB (Za (eC (.str [109,111,114,101])) (Za (eC (.int 0)) (Za (eC (.int 1)) (Za (eC (.int 0)) (Zd)))))) (Za (aB (Za (eC (.str [103,101,116])) (Za (eC (.int 1)) (Za (eC (.int 2)) (Zd))))) (Za (aB (Za (eC (.str [115,101,116])) (Za (eC (.int 3)) (Za (eC (.int 0)) (Zd))))) (Zd))))))))) (Zw (aP 9 (e2 di (Zc 9) (aB (Za (aB (Za (eC (.str [116,101,108,108])) (Za (eC (.int 6)) (Zd)))) (Za (aB (Za (eC (.str [119,104,101,110])) (Za (eC (.int 1)) (Za (eC (.int 0)) (Zd))))) (Za (aB (Za (eC (.str [106,117,109,112])) (Za (eC (.int 0)) (Zd)))) (Za (aB (Za (eC (.str [104,97,108,116])) (Zd))) (Zd)))))))) (Zw (oO (Zc 4) (e1 cA (eC (.int 1))) (e2 Zv (Zc 9) (e2 bO (e2 cF (Zc 2) (eC (.int 5))) (eC (.int 10))))) (Zw (oO (Zc 5) (e1 cA (eC (.int 1))) (e2 Zv (Zc 4) (e1 cA (eC (.int 1))))) (bG (cu (aN iQ (Za (Zc 4) (Zd))) (cu (aN iQ (Za (Zc 5) (Zd))) (cu (aN iQ (Za (aB (Za (e2 Zv (Zc 4) (e1 cA (eC (.int 1)))) (Zd))) (Zd))) (aN A_ (Zd))))))))))
   [d0,d1,Ya (.int s),d3,Ya (.ref r4),Ya (.ref r5),d6,d7,d8,Yi] S) (.bl true):=by
 have sm:∀i:Nat,i<10->((i:Nat):Int).natAbs<10^60:=λi h=>by rw[Cr];exact tE h (by decide +kernel)
 have b8:∀i:Nat,i<8->FP (bx,(i:Int)):=λi h=>ig h;obtain⟨r9,bs,S1,h1,p1,g1,q1,e1⟩:LA TQ (aB (Za (aB (Za (eC (.str [112,117,116])) (Za (eC (.int 0)) (Za (eC (.int 5)) (Zd))))) (Za (aB (Za (eC (.str [97,100,100])) (Za (eC (.int 1)) (Za (eC (.int 2)) (Za (eC (.int 3)) (Zd)))))) (Za (aB (Za (eC (.str [115,117,98])) (Za (eC (.int 7)) (Za (eC (.int 7)) (Za (eC (.int 7)) (Zd)))))) (Za (aB (Za (eC (.str [109,111,114,101])) (Za (eC (.int 0)) (Za (eC (.int 1)) (Za (eC (.int 0)) (Zd)))))) (Za (aB (Za (eC (.str [103,101,116])) (Za (eC (.int 1)) (Za (eC (.int 2)) (Zd))))) (Za (aB (Za (eC (.str [115,101,116])) (Za (eC (.int 3)) (Za (eC (.int 0)) (Zd))))) (Zd)))))))) [d0,d1,Ya (.int s),d3,Ya (.ref r4),Ya (.ref r5),d6,d7,d8,Yi] S 6:=
  ur.lst (kO ([112,117,116],[((0:Nat):Int),5]) rfl (dU rfl rfl rfl rfl (bQ (b8 0 (by decide)) (bQ (o9 (sm 5 (by decide)) (by decide)) dW))) trivial λ_ _=>
   kO ([97,100,100],[((1:Nat):Int),((2:Nat):Int),((3:Nat):Int)]) rfl (dU rfl rfl rfl rfl (bQ (b8 1 (by decide)) (bQ (b8 2 (by decide)) (bQ (b8 3 (by decide)) dW)))) trivial λ_ _=>
   kO ([115,117,98],[((7:Nat):Int),((7:Nat):Int),((7:Nat):Int)]) rfl (dU rfl rfl rfl rfl (bQ (b8 7 (by decide)) (bQ (b8 7 (by decide)) (bQ (b8 7 (by decide)) dW)))) trivial λ_ _=>
   kO ([109,111,114,101],[((0:Nat):Int),((1:Nat):Int),((0:Nat):Int)]) rfl (dU rfl rfl rfl rfl (bQ (b8 0 (by decide)) (bQ (b8 1 (by decide)) (bQ (b8 0 (by decide)) dW)))) trivial λ_ _=>
   kO ([103,101,116],[((1:Nat):Int),((2:Nat):Int)]) rfl (dU rfl rfl rfl rfl (bQ (b8 1 (by decide)) (bQ (b8 2 (by decide)) dW))) trivial λ_ _=>
   kO ([115,101,116],[((3:Nat):Int),((0:Nat):Int)]) rfl (dU rfl rfl rfl rfl (bQ (b8 3 (by decide)) (bQ (b8 0 (by decide)) dW))) trivial λ_ _=>J8) (by decide)
 refine Rt.set h1 ?_;have v9:LA TQ (Zc 9) [d0,d1,Ya (.int s),d3,Ya (.ref r4),Ya (.ref r5),d6,d7,d8,Ya (.ref r9)] S1 6:=⟨r9,bs,S1,rfl,Ck _,g1,q1,e1⟩;obtain⟨r9',bs',S2,h2,p2,g2,q2,el2⟩:LA TQ (e2 di (Zc 9) (aB (Za (aB (Za (eC (.str [116,101,108,108])) (Za (eC (.int 6)) (Zd)))) (Za (aB (Za (eC (.str [119,104,101,110])) (Za (eC (.int 1)) (Za (eC (.int 0)) (Zd))))) (Za (aB (Za (eC (.str [106,117,109,112])) (Za (eC (.int 0)) (Zd)))) (Za (aB (Za (eC (.str [104,97,108,116])) (Zd))) (Zd))))))) [d0,d1,Ya (.int s),d3,Ya (.ref r4),Ya (.ref r5),d6,d7,d8,Ya (.ref r9)] S1 (6+4):=
  J9.la (LA.add v9 (λ_ _=>ur.lst (kO ([116,101,108,108],[((6:Nat):Int)]) rfl (dU rfl rfl rfl rfl (bQ (b8 6 (by decide)) dW)) trivial λ_ _=>
   kO (dR,[((1:Nat):Int),0]) rfl (dU rfl rfl rfl rfl (bQ (b8 1 (by decide)) (bQ (o9 (sm 0 (by decide)) (by decide)) dW))) trivial λ_ _=>
   kO (cR,[0]) rfl (dU rfl rfl rfl rfl (bQ (o9 (sm 0 (by decide)) (by decide)) dW)) trivial λ_ _=>
   kO (hlt,[]) rfl (dU rfl rfl rfl rfl dW) trivial λ_ _=>J8) (by decide)) (by decide))
 refine Rt.set h2 ?_;obtain⟨j,hj,lj⟩:=j9 (s / 5) 10 (by decide);have hj':s / 5 % 10=(j:Int):=hj;obtain⟨b,S3,h3,p3,q3⟩:∃b S',e2 Zv (Zc 9) (e2 bO (e2 cF (Zc 2) (eC (.int 5))) (eC (.int 10))) [d0,d1,Ya (.int s),d3,Ya (.ref r4),Ya (.ref r5),d6,d7,d8,Ya (.ref r9')] S2= .ok (.ref b) S'/\S2<+:S'/\kJ TQ S' b:=LA.idx (n:=10) ⟨r9',bs',S2,rfl,Ck _,g2,q2,el2⟩ (λS'=>Zm (Zm rfl rfl (mj (by decide))) rfl ((gZ (by decide)).trans (by rw[hj']))) lj;have P3:=p1.trans (p2.trans p3);have Bu:=R4.pre P3;have Ey:=R5.pre P3;obtain⟨Tn,h4,R4a⟩:=Zkl Bu q3.row;have R5a:=Ey.oth Bu.aZ hn (.lst (Tn.map D.ref));refine Rt.step (xT (J5 h3 rfl rfl h4)) ?_;obtain⟨a,qa,ha⟩:=Zjd R4a;obtain⟨Tp,h5,R5b⟩:=Zkl R5a qa;have Q9:=R4a.oth R5a.aZ (cP hn) (.lst (Tp.map D.ref));refine Rt.step (xT (J5 (Zm rfl rfl ha) rfl rfl h5)) ?_;obtain⟨S5,hS5⟩:∃S5,(S3.set r4 (MO.lst (Tn.map D.ref))).set r5 (.lst (Tp.map D.ref))=S5:=⟨_,rfl⟩;rw[hS5]at Q9 R5b ⊢;obtain⟨a',qa',ha'⟩:=Zjd Q9;have Rn:cX (S5++[.lst [.ref a']]) S5.length [a']:=⟨Zz ..,λx hx=>by rw[wY.mp hx];exact qa'.pre (Y8 _ _),(λz=>nomatch z),w5 rfl⟩;obtain⟨M',hm⟩:=ZoW (S5++[.lst [.ref a']]);refine Rt.ret (M':=M') ?_;rw[lW (M1:=S5) (qN rfl (Eu Q9)),lW (M1:=S5) (qN rfl (Eu R5b)),lW (M1:=S5++[.lst [.ref a']]) (qN (uo (Zx (Zm rfl rfl ha') rfl) rfl) (Eu Rn))];exact hm
noncomputable def st0:S3:=aP 1 (aN yw (Za (Zc 0) (Za (eC (.int 0)) (Zd))))
noncomputable def st1:S3:=aP 2 (aN yw (Za (Zc 0) (Za (eC (.int 1)) (Zd))))
noncomputable def st2:S3:=aP 3 (e2 di (bB cH (Za (cG (Zc 0) (b_ (eC (.int 2))) (b_ (eC (.int 42)))) (Zd))) (eC (.int 1)))
noncomputable def st3:S3:=aP 4 (dO (cN (cG (Zc 0) (b_ (eC (.int 2))) (b_ (eC (.int 42))))) 1 (cM 10) [] (aN q_ (Za (Zc 10) (Za (Zc 3) (Zd)))))
noncomputable def Js:S3:=fL (cL nH nG (Zc 4) (Za (e2 Zv (aB (Za (aB (Za (eC (.str [104,97,108,116])) (Zd))) (Za (aB (Za (eC (.str [106,117,109,112])) (Za (e2 bO (Zc 2) (Zc 3)) (Zd)))) (Zd)))) (e2 bO (Zc 1) (eC (.int 2)))) (Zd)))
noncomputable def jW:S3:=bD (e1 fX (aN iQ (Za (Zc 4) (Zd)))) (bG (eC (.bl false))) (bT)
noncomputable def st6:S3:=aP 5 (dO (cN (Zc 4)) 1 (cM 10) [] (bB vD (Za (Zc 10) (Zd))))
noncomputable def j6:S3:=aP 6 (dO (zV (Zc 3)) 1 (cM 10) [e2 fJ (e2 Zv (e2 Zv (Zc 4) (Zc 10)) (eC (.int 0))) (iH (Za (eC (.str [106,117,109,112])) (Za (eC (.str [119,104,101,110])) (Zd))))] (Zc 10))
noncomputable def st8:S3:=bD (cu (e2 nF (e2 bO (e2 cF (Zc 1) (eC (.int 2))) (eC (.int 3))) (eC (.int 0))) (e2 nF (bB cH (Za (Zc 6) (Zd))) (eC (.int 0)))) (Zw (aP 7 (e2 Zv (Zc 6) (e2 bO (Zc 2) (bB cH (Za (Zc 6) (Zd)))))) (oO (e2 Zv (Zc 5) (Zc 7)) (e1 cA (eC (.int 1))) (aN wz (Za (e2 cF (Zc 1) (eC (.int 6))) (Za (Zc 3) (Zd)))))) (bT)
noncomputable def st9:S3:=bD (e2 cQ (e2 bO (e2 cF (Zc 1) (eC (.int 2))) (eC (.int 3))) (eC (.int 0))) (Zw (aP 7 (e2 bO (Zc 2) (Zc 3))) (Zw (aP 8 (e2 Zv (aB (Za (aB (Za (eC (.str [106,117,109,112])) (Za (eC (.int 0)) (Zd)))) (Za (aB (Za (eC (.str [119,104,101,110])) (Za (e2 bO (e2 cF (Zc 2) (Zc 3)) (eC (.int 8))) (Za (eC (.int 0)) (Zd))))) (Zd)))) (e2 bO (e2 cF (Zc 1) (eC (.int 6))) (eC (.int 2))))) (Zw (oO (Zc 8) (e1 cA (eC (.int 1))) (aN wz (Za (e2 cF (Zc 1) (eC (.int 12))) (Za (e2 di (Zc 3) (eC (.int 1))) (Zd))))) (aP 5 (e2 di (e2 di (cG (Zc 5) (eE) (b_ (Zc 7))) (aB (Za (Zc 8) (Zd)))) (cG (Zc 5) (b_ (Zc 7)) (eE))))))) (bT)
noncomputable def ZuJ:S3:=bD (e1 fX (aN iQ (Za (Zc 5) (Zd)))) (bG (eC (.bl false))) (bT)
noncomputable def Ztt:S3:=Zw (aP 9 (aB (Za (aB (Za (eC (.str [112,117,116])) (Za (eC (.int 0)) (Za (eC (.int 5)) (Zd))))) (Za (aB (Za (eC (.str [97,100,100])) (Za (eC (.int 1)) (Za (eC (.int 2)) (Za (eC (.int 3)) (Zd)))))) (Za (aB (Za (eC (.str [115,117,98])) (Za (eC (.int 7)) (Za (eC (.int 7)) (Za (eC (.int 7)) (Zd)))))) (Za (aB (Za (eC (.str [109,111,114,101])) (Za (eC (.int 0)) (Za (eC (.int 1)) (Za (eC (.int 0)) (Zd)))))) (Za (aB (Za (eC (.str [103,101,116])) (Za (eC (.int 1)) (Za (eC (.int 2)) (Zd))))) (Za (aB (Za (eC (.str [115,101,116])) (Za (eC (.int 3)) (Za (eC (.int 0)) (Zd))))) (Zd))))))))) (Zw (aP 9 (e2 di (Zc 9) (aB (Za (aB (Za (eC (.str [116,101,108,108])) (Za (eC (.int 6)) (Zd)))) (Za (aB (Za (eC (.str [119,104,101,110])) (Za (eC (.int 1)) (Za (eC (.int 0)) (Zd))))) (Za (aB (Za (eC (.str [106,117,109,112])) (Za (eC (.int 0)) (Zd)))) (Za (aB (Za (eC (.str [104,97,108,116])) (Zd))) (Zd)))))))) (Zw (oO (Zc 4) (e1 cA (eC (.int 1))) (e2 Zv (Zc 9) (e2 bO (e2 cF (Zc 2) (eC (.int 5))) (eC (.int 10))))) (Zw (oO (Zc 5) (e1 cA (eC (.int 1))) (e2 Zv (Zc 4) (e1 cA (eC (.int 1))))) (bG (cu (aN iQ (Za (Zc 4) (Zd))) (cu (aN iQ (Za (Zc 5) (Zd))) (cu (aN iQ (Za (aB (Za (e2 Zv (Zc 4) (e1 cA (eC (.int 1)))) (Zd))) (Zd))) (aN A_ (Zd)))))))))
noncomputable def Ztz:S3:=Zw ZuJ Ztt
noncomputable def tl9:S3:=Zw st9 Ztz
noncomputable def tl8:S3:=Zw st8 tl9
noncomputable def tl7:S3:=Zw j6 tl8
noncomputable def tl6:S3:=Zw st6 tl7
noncomputable def tl5:S3:=Zw jW tl6
noncomputable def tl4:S3:=Zw Js tl5
noncomputable def tl3:S3:=Zw st3 tl4
noncomputable def tl2:S3:=Zw st2 tl3
noncomputable def tl1:S3:=Zw st1 tl2
noncomputable def tl0:S3:=Zw st0 tl1
theorem Zrk:QV=tl0:=rfl
theorem Zp8(R4:cX S r4 ir)(R5:cX S r5 fj)(hn:r5≠r4)(s:Int)(d0 d1 d3 d6 d7 d8:Option D):Rt (Ztt [d0,d1,Ya (.int s),d3,Ya (.ref r4),Ya (.ref r5),d6,d7,d8,Yi] S) (.bl true):=ZtB R4 R5 hn s d0 d1 d3 d6 d7 d8
theorem ZnA(R4:cX S r4 ir)(R5:cX S r5 fj)(hn:r5≠r4)(s:Int)(d0 d1 d3 d6 d7 d8:Option D):Rt (Ztz [d0,d1,Ya (.int s),d3,Ya (.ref r4),Ya (.ref r5),d6,d7,d8,Yi] S) (.bl true):=Rt.skip (ji (qN rfl (Eu R5)) rfl) (Zp8 R4 R5 hn s d0 d1 d3 d6 d7 d8)
theorem LA.sl(R:cX S r as){lo hi:tY}{a:Option Int}{bs:List Nat}(h1:f env S= .ok (.ref r) S)(h2:lo env S= .ok a S)(h3:hi env S= .ok b S)(hb:cutD as a b=bs):LA TQ (cG f lo hi) env S bs.length:=by
 have s:=ZmF h1 R.aZ h2 h3;rw[ZS,hb]at s;refine⟨_,bs,_,s,Y8 _ _,Zz ..,λx hx=>?_,rfl⟩;have:x∈as:=by rw[←hb]at hx;unfold cutD at hx;exact List.mem_of_mem_drop (List.mem_of_mem_take hx)
 obtain⟨g,ks,q,F⟩:=R.row x this;exact⟨g,ks,jF q _,F,trivial⟩
theorem Zps(R4:cX S r4 ir)(R5:cX S r5 fj)(hn:r5≠r4)(h5:fj.length<=900)(f s:Int)(m:Nat)(hm:0<m)(hm2:m<=100)(d0 d6 d7 d8:Option D):Rt (tl9 [d0,Ya (.int f),Ya (.int s),Ya (.int (m:Int)),Ya (.ref r4),Ya (.ref r5),d6,d7,d8,Yi] S) (.bl true):=by
 have c0:(e2 bO (e2 cF (Zc 1) (eC (.int 2))) (eC (.int 3))) [d0,Ya (.int f),Ya (.int s),Ya (.int (m:Int)),Ya (.ref r4),Ya (.ref r5),d6,d7,d8,Yi] S= .ok (.int (f / 2 % 3)) S:=Zm (Zm rfl rfl (mj (by decide))) rfl (gZ (by decide));by_cases h:f / 2 % 3=0
 .obtain⟨k,hk,lk⟩:=j9 s m hm;obtain⟨x,hx,lx⟩:=j9 (s / m) 8 (by decide);have hx':s / m % 8=(x:Int):=hx;obtain⟨j,hj,lj⟩:=j9 (f / 6) 2 (by decide);have hj':f / 6 % 2=(j:Int):=hj;have n0:(0:Int).natAbs<10^60:=by decide +kernel
  obtain⟨b,S1,h1,p1,q1⟩:∃b S',e2 Zv (aB (Za (aB (Za (eC (.str [106,117,109,112])) (Za (eC (.int 0)) (Zd)))) (Za (aB (Za (eC (.str [119,104,101,110])) (Za (e2 bO (e2 cF (Zc 2) (Zc 3)) (eC (.int 8))) (Za (eC (.int 0)) (Zd))))) (Zd)))) (e2 bO (e2 cF (Zc 1) (eC (.int 6))) (eC (.int 2))) [d0,Ya (.int f),Ya (.int s),Ya (.int (m:Int)),Ya (.ref r4),Ya (.ref r5),d6,Ya (.int (k:Int)),d8,Yi] S= .ok (.ref b) S'/\S<+:S'/\kJ JW S' b:=LA.idx (n:=2) (ur.lst (kO (cR,[0]) rfl (dU rfl rfl rfl rfl (bQ (o9 n0 (by decide)) dW)) (.inl rfl) λ_ _=>kO (dR,[(x:Int),0]) (Zx rfl (Zx (Zm (Zm rfl rfl (mj (by omega))) rfl ((gZ (by decide)).trans (by rw[hx']))) rfl)) (dU rfl rfl rfl rfl (bQ (ig lx) (bQ (o9 n0 (by decide)) dW))) (.inr rfl) λ_ _=>J8) (by decide)) (λS'=>Zm (Zm rfl rfl (mj (by decide))) rfl ((gZ (by decide)).trans (by rw[hj']))) lj;obtain⟨v,hv,hf⟩:=ZmN (f / 12) (m+1) (by omega) S1;obtain⟨g',ks',F',h2⟩:=ZiS q1 hv;have Bu:=(R4.pre p1).chg q1.row F';have Ey:=(R5.pre p1).chg q1.row F';obtain⟨S2,hS2⟩:∃S2,S1.set b (.lst (eQ g'))=S2:=⟨_,rfl⟩;have qb:eU S2 b:=by obtain⟨_,_,z,_⟩:=q1;rw[←hS2];exact⟨g',ks',jR (mq z),F'⟩
  rw[hS2]at Bu Ey h2;have eA:LA TQ (cG (Zc 5) (eE) (b_ (Zc 7))) [d0,Ya (.int f),Ya (.int s),Ya (.int (m:Int)),Ya (.ref r4),Ya (.ref r5),d6,Ya (.int (k:Int)),Ya (.ref b),Yi] S2 (fj.take k).length:=LA.sl Ey rfl rfl rfl (ZmB fj k);have eB:∀S',S2<+:S'->LA TQ (aB (Za (Zc 8) (Zd))) [d0,Ya (.int f),Ya (.int s),Ya (.int (m:Int)),Ya (.ref r4),Ya (.ref r5),d6,Ya (.int (k:Int)),Ya (.ref b),Yi] S' 1:=λS' p=>⟨_,[b],_,uo rfl rfl,Y8 _ _,Zz ..,λy hy=>by rw[wY.mp hy];obtain⟨g,ks,z,F⟩:=qb.pre (p.trans (Y8 _ _));exact⟨g,ks,z,F,trivial⟩,rfl⟩;have l1:(fj.take k).length<=900:=by rw[sX];omega
  have eC:∀S',S2<+:S'->LA TQ (cG (Zc 5) (b_ (Zc 7)) (eE)) [d0,Ya (.int f),Ya (.int s),Ya (.int (m:Int)),Ya (.ref r4),Ya (.ref r5),d6,Ya (.int (k:Int)),Ya (.ref b),Yi] S' (fj.drop k).length:=λS' p=>LA.sl (Ey.pre p) rfl rfl rfl (J4 fj k);have l2:(fj.take k).length+1+(fj.drop k).length<=1000:=by rw[sX,Gw];omega
  obtain⟨r5',bs,S3,h3,p3,g3,q3,e3,f3⟩:=LA.add (LA.add eA eB (by omega)).la eC l2;have lt4:=mq Bu.aZ;refine Rt.step (env':=[d0,Ya (.int f),Ya (.int s),Ya (.int (m:Int)),Ya (.ref r4),Ya (.ref r5'),d6,Ya (.int (k:Int)),Ya (.ref b),Yi]) (M':=S3) ((vJ (Zm c0 rfl (ZuQ h))).trans ?_) (ZnA (Bu.pre p3) ⟨g3,λy hy=>(q3 y hy).row,(λz=>by rw[z]at e3;simp only[wZ]at e3;omega),by omega⟩ (by omega) s _ _ _ _ _ _);refine(Zy (eF (d:=.int (k:Int)) (M':=S) (Zm rfl rfl ((gZ (by omega)).trans (by rw[hk]))))).trans ?_;refine(Zy (eF h1)).trans ((Zy (xT (J5 (xV (Zm rfl rfl (mj (by decide))) (Zm rfl rfl rfl) hf) rfl rfl h2))).trans (eF h3))
 .exact Rt.skip (Zm c0 rfl (ZuY h)) (ZnA R4 R5 hn s d0 _ _ d6 d7 d8)
theorem ZpO(a b:Int)(M:Store):nF (.int a) (.int b) M= .ok (.bl (decide (b<a))) M:=by simp only[ZG]
theorem Zso{r6:Nat}{ks:List Nat}(R4:cX S r4 ir)(R5:cX S r5 fj)(hn:r5≠r4)(h5:fj.length<=900)(g6:S[r6]?=Ya (.lst (ks.map λk:Nat=>D.int (k:Int))))(hk:∀k∈ks,∃b,fj[k]?=Ya b/\kJ JW S b)(f s:Int)(m:Nat)(hm:0<m)(hm2:m<=100)(d0 d7 d8:Option D):
  Rt (tl8 [d0,Ya (.int f),Ya (.int s),Ya (.int (m:Int)),Ya (.ref r4),Ya (.ref r5),Ya (.ref r6),d7,d8,Yi] S) (.bl true):=by
 have c0:(e2 nF (e2 bO (e2 cF (Zc 1) (eC (.int 2))) (eC (.int 3))) (eC (.int 0))) [d0,Ya (.int f),Ya (.int s),Ya (.int (m:Int)),Ya (.ref r4),Ya (.ref r5),Ya (.ref r6),d7,d8,Yi] S= .ok (.bl (decide (0<f / 2 % 3))) S:=Zm (Zm (Zm rfl rfl (mj (by decide))) rfl (gZ (by decide))) rfl (ZpO ..);have c1:(e2 nF (bB cH (Za (Zc 6) (Zd))) (eC (.int 0))) [d0,Ya (.int f),Ya (.int s),Ya (.int (m:Int)),Ya (.ref r4),Ya (.ref r5),Ya (.ref r6),d7,d8,Yi] S= .ok (.bl (decide (0<((ks.map λk:Nat=>D.int (k:Int)).length:Int)))) S:=Zm (gP rfl (zY g6)) rfl (ZpO ..);have sk:∀d7,Rt (tl9 [d0,Ya (.int f),Ya (.int s),Ya (.int (m:Int)),Ya (.ref r4),Ya (.ref r5),Ya (.ref r6),d7,d8,Yi] S) (.bl true):=λd7=>Zps R4 R5 hn h5 f s m hm hm2 d0 _ d7 d8;by_cases h:0<f / 2 % 3
 .rw[decide_eq_true h]at c0;by_cases hl:0<ks.length
  .rw[decide_eq_true (by rw[Yn];omega)]at c1;obtain⟨j,hj,lj⟩:=j9 s ks.length hl;have kj:ks[j]?=Ya ks[j]:=lG lj;obtain⟨b,hb,q⟩:=hk _ (sY lj);obtain⟨v,hv,hf⟩:=ZmN (f / 6) m (by omega) S;obtain⟨g',ks',F',h2⟩:=ZiS q hv;refine Rt.step (env':=[d0,Ya (.int f),Ya (.int s),Ya (.int (m:Int)),Ya (.ref r4),Ya (.ref r5),Ya (.ref r6),Ya (.int ((ks[j]:Nat):Int)),d8,Yi]) ((vJ ((lW c0).trans c1)).trans ?_) (Zps (R4.chg q.row F') (R5.chg q.row F') hn h5 f s m hm hm2 d0 _ _ d8);refine(Zy (eF (d:=.int ((ks[j]:Nat):Int)) (M':=S) (Zm rfl (Zm rfl (gP rfl (zY g6)) ((gZ (by rw[Yn];omega)).trans (by rw[Yn,hj]))) (jG g6 (by rw[jh,gn,kj];rfl))))).trans ?_;exact xT (J5 (xV (Zm rfl rfl (mj (by decide))) rfl hf) (Zm rfl rfl (jG R5.aZ (by rw[jh,gn,hb];rfl))) rfl h2)
  .rw[decide_eq_false (by rw[Yn];omega)]at c1;exact Rt.skip ((lW c0).trans c1) (sk d7)
 .rw[decide_eq_false h]at c0;exact Rt.skip (DP c0) (sk d7)
theorem Q_{it:gO}{i:Nat}{c:E3}{env0:Zt}{S:Store}{p:D->Bool}(hi:i<env0.length)(hl:∀x,locked it (S++[x])=true):∀(ds acc:List D) (env:Zt),(∀d,env.set i (Ya d)=env0.set i (Ya d))->acc.length+ds.length<=1000 ->
  (∀d∈ds,∀x,c (env0.set i (Ya d)) (S++[x])= .ok (.bl (p d)) (S++[x]))->fZ it (cM i) [c] (Zc i) S.length ds env (S++[.lst acc])= .ok (.ref S.length) (S++[.lst (acc++ds.filter p)])
 |[],acc,env,_,_,_=>by rw[O4,if_pos (hl _),List.filter_nil,gW]|d::ds,acc,env,he,hz,hc=>by
  rw[iC]at hz;have la:acc.length<SZ:=GJ (show acc.length<=1000 by omega) (by decide);have ev:Zc i (env0.set i (Ya d)) (S++[MO.lst acc])= .ok d (S++[.lst acc]):=by simp only[Zc,jR hi]
  have he':∀x,(env.set i (Ya d)).set i (Ya x)=env0.set i (Ya x):=λx=>by rw[zb];exact he x
  rw[IW,if_pos (hl _)];simp only[cM,O2,O1,he d,hc d (Y0 ..),R3.bind];cases h:p d with
  |true=>have st:(S++[MO.lst acc]).set S.length (.lst (acc++[d]))=S++[.lst (acc++[d])]:=Jb S _ 0 _;simp only[if_true,ev,Zz,if_pos la,st];rw[←he d,Q_ hi hl ds (acc++[d]) _ he' (by rw[Y4,mX];omega) λd hd=>hc d (Yx _ hd)];rw[Uv h,lH];rfl|false=>simp only[Cq,if_false];rw[←he d,Q_ hi hl ds acc _ he' (by omega) λd hd=>hc d (Yx _ hd)];rw[Uw (by rw[h];exact oG)]
theorem Zn7(nm:List Nat)(M:Store):fJ (.str nm) (.tup [.str cR,.str dR]) M= .ok (.bl (decide (nm=cR\/nm=dR))) M:=by
 by_cases h1:nm=cR
 .rw[h1];rfl
 .by_cases h2:nm=dR
  .rw[h2];rfl
  .rw[decide_eq_false (λz=>z.elim h1 h2)];have h3:¬cR=nm:=λz=>h1 z.symm;have h4:¬dR=nm:=λz=>h2 z.symm;simp[fJ,Om,d_,h3,h4]
theorem ZsG(R4:cX S r4 ir)(R5:cX S r5 fj)(hn:r5≠r4)(h5:fj.length<=900)(hc:∀(k:Nat) a b,ir[k]?=Ya a->fj[k]?=Ya b->S[b]?=S[a]?)(hl:fj.length=ir.length)(f s:Int)(m:Nat)(hm:ir.length=m)(hm2:m<=100)(d0 d6 d7 d8:Option D):
  Rt (tl7 [d0,Ya (.int f),Ya (.int s),Ya (.int (m:Int)),Ya (.ref r4),Ya (.ref r5),d6,d7,d8,Yi] S) (.bl true):=by
 obtain⟨nm,hnm⟩:∃nm:D->List Nat,∀k:Nat,k<m->∃a is,ir[k]?=Ya a/\S[a]?=Ya (.lst (eQ (nm (.int (k:Int)),is)))/\∃ks,gD (nm (.int (k:Int))) is ks:=by
  obtain⟨F,hF⟩:=Vg (r:=λ(d:D) (x:List Nat)=>∀k:Nat,k<m->d= .int (k:Int)->∃a is,ir[k]?=Ya a/\S[a]?=Ya (.lst (eQ (x,is)))/\∃ks,gD x is ks) λd=>by
   by_cases h:∃k:Nat,k<m/\d= .int (k:Int)
   .obtain⟨k,lk,rfl⟩:=h;have l:k<ir.length:=by rw[hm];exact lk
    obtain⟨⟨x,is⟩,ks,h1,h2⟩:=R4.row _ (sY l);refine⟨x,λk' _ e=>?_⟩;obtain rfl:k=k':=by injection e with e;omega
    exact⟨_,is,lG l,h1,ks,h2⟩
   .exact⟨[],λk lk e=>absurd ⟨k,lk,e⟩ h⟩
  exact⟨F,λk lk=>hF _ k lk rfl⟩
 have lc:(dO (zV (Zc 3)) 1 (cM 10) [e2 fJ (e2 Zv (e2 Zv (Zc 4) (Zc 10)) (eC (.int 0))) (iH (Za (eC (.str [106,117,109,112])) (Za (eC (.str [119,104,101,110])) (Zd))))] (Zc 10)) [d0,Ya (.int f),Ya (.int s),Ya (.int (m:Int)),Ya (.ref r4),Ya (.ref r5),d6,d7,d8,Yi] S= .ok (.ref S.length) (S++[.lst ((lU 0 m).filter λd=>decide (nm d=cR\/nm d=dR))]):=by
  have it:(zV (Zc 3)) [d0,Ya (.int f),Ya (.int s),Ya (.int (m:Int)),Ya (.ref r4),Ya (.ref r5),d6,d7,d8,Yi] S= .ok ⟨lU 0 m,Yi⟩ S:=by simp only[zV,Zc,sW,jQ,R3.bind];simp;try omega
  rw[O7 it];refine(Q_ (env0:=[d0,Ya (.int f),Ya (.int s),Ya (.int (m:Int)),Ya (.ref r4),Ya (.ref r5),d6,d7,d8,Yi,Yi]) (p:=λd=>decide (nm d=cR\/nm d=dR)) (show 10<11 by decide) (λ_=>rfl) (lU 0 m) [] _ (λ_=>rfl) (by rw[Zn2];simp only[wZ];omega) λd hd x=>?_).trans (by rw[Gz]);obtain⟨k,hk⟩:=Ci hd;obtain⟨rfl,lk⟩:=ZV hk;obtain⟨a,is,h1,h2,_⟩:=hnm k lk;exact Zm (Zm (Zm rfl rfl (jG (jF R4.aZ _) (by rw[jh,gn,h1];rfl))) rfl (jG (jF h2 _) (jh _ 0))) (zX rfl rfl) (Zn7 _ _)
 obtain⟨ks,ek,hks⟩:∃ks:List Nat,((lU 0 m).filter λd=>decide (nm d=cR\/nm d=dR))=ks.map (λk:Nat=>D.int (k:Int))/\∀k∈ks,k<m/\(nm (.int (k:Int))=cR\/nm (.int (k:Int))=dR):=by
  have gen:∀ds:List D,(∀d∈ds,∃k:Nat,d= .int (k:Int)/\k<m)->∃ks:List Nat,(ds.filter λd=>decide (nm d=cR\/nm d=dR))=ks.map (λk:Nat=>D.int (k:Int))/\∀k∈ks,k<m/\(nm (.int (k:Int))=cR\/nm (.int (k:Int))=dR):=by
   intro ds
   induction ds with
   |nil=>exactλ_=>⟨[],rfl,(λ_ z=>nomatch z)⟩|cons d ds ih=>
    intro h;obtain⟨ks,e,q⟩:=ih λd hd=>h d (Yx _ hd);obtain⟨k,rfl,lk⟩:=h d (Y0 ..);by_cases hp:nm (.int (k:Int))=cR\/nm (.int (k:Int))=dR
    .refine⟨k::ks,by rw[Uv (p:=λd=>decide (nm d=cR\/nm d=dR)) (decide_eq_true hp),e];rfl,λy hy=>?_⟩;rcases Y5.mp hy with rfl|hy
     .exact⟨lk,hp⟩
     .exact q y hy
    .exact⟨ks,by rw[Uw (p:=λd=>decide (nm d=cR\/nm d=dR)) (λz=>hp (of_decide_eq_true z))];exact e,q⟩
  refine gen _ λd hd=>?_;obtain⟨k,hk⟩:=Ci hd;obtain⟨rfl,lk⟩:=ZV hk;exact⟨k,rfl,lk⟩
 rw[ek]at lc;refine Rt.set lc (Zso (R4.pre (Y8 _ _)) (R5.pre (Y8 _ _)) hn h5 (Zz ..) (λk hk=>?_) f s m (by rw[←hm];exact List.length_pos_iff.mpr R4.ne) hm2 d0 d7 d8);obtain⟨lk,q⟩:=hks k hk;obtain⟨a,is,h1,h2,kk,F⟩:=hnm k lk;have l5:k<fj.length:=by omega
 exact⟨_,lG l5,_,kk,jF ((hc k a _ h1 (lG l5)).trans h2) _,F,q⟩
theorem Ra:∀(es:List D) {P:Nat->Prop},(∀e∈es,∃a,e= .ref a/\P a)->∃as:List Nat,es=as.map D.ref/\∀a∈as,P a
 |[],_,_=>⟨[],rfl,(λ_ z=>nomatch z)⟩|e::es,P,h=>by
  obtain⟨as,rfl,q⟩:=Ra es (P:=P) λe he=>h e (Yx _ he);obtain⟨a,rfl,p⟩:=h _ (Y0 ..);refine⟨a::as,rfl,λx hx=>?_⟩;rcases Y5.mp hx with rfl|hx
  .exact p
  .exact q x hx
theorem Zss(R4:cX S r4 ir)(f s:Int)(m:Nat)(hm:ir.length=m)(hm2:m<=100)(d0 d5 d6 d7 d8:Option D):
  Rt (tl6 [d0,Ya (.int f),Ya (.int s),Ya (.int (m:Int)),Ya (.ref r4),d5,d6,d7,d8,Yi] S) (.bl true):=by
 have l4:=mq R4.aZ;obtain⟨ps,S',h1,p1,g1,e1,q1⟩:∃(ps:List (D×D)) (S':Store),(dO (cN (Zc 4)) 1 (cM 10) [] (bB vD (Za (Zc 10) (Zd)))) [d0,Ya (.int f),Ya (.int s),Ya (.int (m:Int)),Ya (.ref r4),d5,d6,d7,d8,Yi] S= .ok (.ref S.length) S'/\S<+:S'/\S'[S.length]?=Ya (.lst (ps.map (·.2)))/\ps.map (·.1)=ir.map D.ref/\∀p∈ps,(λ(d e:D) (T:Store)=>∃a b x,d= .ref a/\e= .ref b/\b≠S.length/\S[a]?=Ya x/\T[b]?=Ya x) p.1 p.2 S':=
  Q5 (R:=λd e T=>∃a b x,d= .ref a/\e= .ref b/\b≠S.length/\S[a]?=Ya x/\T[b]?=Ya x) (lock:=Ya r4) (λd e T T' ⟨a,b,x,h1,h2,h3,h4,h5⟩ k=>⟨a,b,x,h1,h2,h3,h4,k.get h5 h3⟩) (by simp only[cN,Zc,sW,jQ,R3.bind,R4.aZ]) (λn z=>by cases z;exact R4.aZ) (by rw[Yn];exact R4.few)
   (λd hd T lT o=>by obtain⟨a,ha,rfl⟩:=jb.mp hd;obtain⟨g,ks,q,F⟩:=R4.row a ha;have qT:=(o a (mq q)).trans q;refine⟨.ref T.length,T++[.lst (eQ g)],gP rfl ?_,Y8 _ _,a,T.length,_,rfl,rfl,by omega,q,Zz ..⟩;simp only[zT,qT,alloc])
 have rw4:∀p∈ps,p.1∈ir.map D.ref:=λp hp=>by rw[←e1];exact Lz hp
 obtain⟨fj,e5,q5⟩:=Ra (ps.map (·.2)) (P:=λb=>eU S' b) λe he=>by obtain⟨p,hp,rfl⟩:=jb.mp he;obtain⟨a,b,x,z1,z2,z3,z4,z5⟩:=q1 p hp;have m4:=rw4 p hp;rw[z1]at m4;obtain⟨a',ha',e'⟩:=jb.mp m4;cases e';obtain⟨g,ks,q,F⟩:=R4.row a ha';rw[q]at z4;cases z4;exact⟨b,z2,g,ks,z5,F⟩
 have ln:fj.length=ir.length:=by have x1:=congrArg tD e5;have x2:=congrArg tD e1;simp only[Yn]at x1 x2;omega
 rw[e5]at g1;refine Rt.set h1 (ZsG (R4.pre p1) ⟨g1,q5,(λz=>R4.ne (Ce (by rw[←ln,z];rfl))),by omega⟩ (by omega) (by omega) (λk a b ka kb=>?_) ln f s m hm hm2 d0 d6 d7 d8);have kp:k<ps.length:=by have x1:=congrArg tD e5;simp only[Yn]at x1;have:=mq kb;omega
 have kg:ps[k]?=Ya ps[k]:=lG kp;obtain⟨a',b',x,z1,z2,z3,z4,z5⟩:=q1 _ (sY kp);have y1:(ps.map (·.1))[k]?=(ir.map D.ref)[k]?:=by rw[e1]
 have y2:(ps.map (·.2))[k]?=(fj.map D.ref)[k]?:=by rw[e5]
 rw[gn,gn,kg,ka]at y1;rw[gn,gn,kg,kb]at y2;have w1:ps[k].1= .ref a:=Y3 y1;have w2:ps[k].2= .ref b:=Y3 y2;rw[w1]at z1;cases z1;rw[w2]at z2;cases z2;rw[z5,o8 p1 z4]
theorem Zsj(g4:S[r4]?=Ya (.lst (as.map D.ref)))(q4:∀a∈as,eU S a)(f s:Int)(m:Nat)(hm:as.length+1=m)(hm2:m<=100)(d0 d5 d6 d7 d8:Option D):
  Rt (tl4 [d0,Ya (.int f),Ya (.int s),Ya (.int (m:Int)),Ya (.ref r4),d5,d6,d7,d8,Yi] S) (.bl true):=by
 obtain⟨u,hu,lu⟩:=j9 s m (by omega);obtain⟨j,hj,lj⟩:=j9 f 2 (by decide);have hj':f % 2=(j:Int):=hj;have nu:((u:Nat):Int).natAbs<10^60:=by rw[Cr];exact Yw (Yw lu hm2) (by decide +kernel)
 obtain⟨b,S1,h1,p1,q1⟩:∃b S',e2 Zv (aB (Za (aB (Za (eC (.str [104,97,108,116])) (Zd))) (Za (aB (Za (eC (.str [106,117,109,112])) (Za (e2 bO (Zc 2) (Zc 3)) (Zd)))) (Zd)))) (e2 bO (Zc 1) (eC (.int 2))) [d0,Ya (.int f),Ya (.int s),Ya (.int (m:Int)),Ya (.ref r4),d5,d6,d7,d8,Yi] S= .ok (.ref b) S'/\S<+:S'/\kJ TQ S' b:=LA.idx (n:=2) (ur.lst (kO (hlt,[]) rfl (dU rfl rfl rfl rfl dW) trivial λ_ _=>kO (cR,[(u:Int)]) (Zx rfl (Zx (Zm rfl rfl ((gZ (by omega)).trans (by rw[hu]))) rfl)) (dU rfl rfl rfl rfl (bQ (o9 nu (by decide)) dW)) trivial λ_ _=>J8) (by decide)) (λS'=>Zm rfl rfl ((gZ (by decide)).trans (by rw[hj']))) lj;have gb:=o8 p1 g4;have R:cX (S1.set r4 (.lst ((as++[b]).map D.ref))) r4 (as++[b]):=by
  have hb:∀x∈as++[b],eU S1 x:=λx hx=>by
   rcases u0.mp hx with hx|hx
   .exact(q4 x hx).pre p1
   .rw[wY.mp hx];exact q1.row
  exact⟨jR (mq gb),λx hx=>(hb x hx).set ((hb x hx).ne gb),by simp,by rw[Y4,mX];omega⟩
 refine Rt.step (env':=[d0,Ya (.int f),Ya (.int s),Ya (.int (m:Int)),Ya (.ref r4),d5,d6,d7,d8,Yi]) (M':=S1.set r4 (.lst ((as++[b]).map D.ref))) ?_ (Rt.skip (ji (qN rfl (Eu R)) rfl) (Zss R f s m (by rw[Y4,mX];exact hm) hm2 d0 d5 d6 d7 d8));have a:=Zp5 (o:=Zc 4) rfl g4 h1 gb (by rw[Yn];exact GJ (show as.length<=100 by omega) (by decide));rw[lJ];exact a
theorem law_holds:∀ns:List Int,ns.length<=63->∃M',ZkF [.aV (ns.map D.int)] []= .ok (.bl true) M':=by
 intro ns hns;refine Rt.law (env:=[Ya (.aV (ns.map D.int)),Yi,Yi,Yi,Yi,Yi,Yi,Yi,Yi,Yi]) ?_;rw[Zrk];obtain⟨f,hf⟩:=Zhg ns 0 [];obtain⟨s,hs⟩:=Zhg ns 1 [];refine Rt.set (xV rfl rfl hf) (Rt.set (xV rfl rfl hs) ?_);obtain⟨cs,hcs⟩:∃cs,cutD ns (Ya 2) (Ya 42)=cs:=⟨_,rfl⟩;have lc:cs.length<=40:=by rw[←hcs];unfold cutD;rw[sX,Gw];have a1:au ns.length 0 (Ya 2)=fG 2 ns.length:=Dp ns.length 0 2;have a2:au ns.length ns.length (Ya 42)=fG 42 ns.length:=Dp ns.length ns.length 42;rw[a1,a2];omega
 have sl:∀{a b c d e f g h i:Option D} {M:Store},(cG (Zc 0) (b_ (eC (.int 2))) (b_ (eC (.int 42)))) [Ya (.aV (ns.map D.int)),a,b,c,d,e,f,g,h,i] M= .ok (.ref M.length) (M++[.lst (cs.map D.int)]):=λ{a b c d e f g h i M}=>by simp only[cG,Zc,jQ,R3.bind,b_,eC,qG,qH,qI,qJ,ZS,hcs,alloc]
 refine Rt.set (d:=.int ((cs.length+1:Nat):Int)) (M':=[.lst (cs.map D.int)]) (Zm (gP sl (zY (Zz ..))) rfl (by rw[Yn];rfl)) ?_;obtain⟨ps,S',h1,p1,g1,e1,q1⟩:∃(ps:List (D×D)) (S':Store),(dO (cN (cG (Zc 0) (b_ (eC (.int 2))) (b_ (eC (.int 42))))) 1 (cM 10) [] (aN q_ (Za (Zc 10) (Za (Zc 3) (Zd))))) [Ya (.aV (ns.map D.int)),Ya (.int f),Ya (.int s),Ya (.int ((cs.length+1:Nat):Int)),Yi,Yi,Yi,Yi,Yi,Yi] [.lst (cs.map D.int)]= .ok (.ref 2) S'/\[MO.lst (cs.map D.int),.lst (cs.map D.int)]<+:S'/\S'[2]?=Ya (.lst (ps.map (·.2)))/\ps.map (·.1)=cs.map D.int/\∀p∈ps,(λ(_ e:D) (T:Store)=>∃a,e= .ref a/\a≠2/\eU T a) p.1 p.2 S':=
  Q5 (M1:=[.lst (cs.map D.int),.lst (cs.map D.int)]) (R:=λ_ e T=>∃a,e= .ref a/\a≠2/\eU T a) (lock:=Ya 1) (λd e T T' ⟨a,h1,h2,g,ks,h3,h4⟩ k=>⟨a,h1,h2,g,ks,k.get h3 h2,h4⟩) (by simp only[cN,sl,R3.bind];rfl) (λn z=>by cases z;rfl) (by rw[Yn];omega)
   (λd hd T lT o=>by obtain⟨c,_,rfl⟩:=jb.mp hd;obtain⟨g,ks,F,n,T',r1,r2,r3,r4⟩:=Zrs c (cs.length+1) (Nat.succ_pos _) (by omega) T;have l2:2<T.length:=lT;exact⟨.ref n,T',xV rfl rfl r1,r2,n,rfl,by omega,g,ks,r3,F⟩)
 obtain⟨as,ea,qa⟩:=Ra (ps.map (·.2)) (P:=λb=>eU S' b) λe he=>by obtain⟨p,hp,rfl⟩:=jb.mp he;obtain⟨a,z1,_,z2⟩:=q1 p hp;exact⟨a,z1,z2⟩
 have la:as.length=cs.length:=by have x1:=congrArg tD ea;have x2:=congrArg tD e1;simp only[Yn]at x1 x2;omega
 rw[ea]at g1;exact Rt.set h1 (Zsj g1 qa f s (cs.length+1) (by rw[la]) (by omega) _ _ _ _ _)
end Law
set_option maxHeartbeats 400000
namespace Law
open PySem PySem.Spec PyProof.Rows L2 L3
variable{P:List Yd->Prop}
theorem uZ(h:P []):∀us:List Yd,us.length=0->P us:=λus e=>(Ce e)▸h
theorem uS{n:Nat}(h:∀a us,us.length=n->P (a::us))(us:List Yd)(e:us.length=n+1):P us:=by
 cases us with
 |nil=>exact absurd e (Nat.succ_ne_zero n).symm|cons a us=>exact h a us (Ni e)
theorem yJ{xa:aj}(h:∀a,P [a]):∀us:List Yd,us.length=[xa].length->P us:=uS λa=>uZ (h a)
theorem J_{xa xb:aj}(h:∀a b,P [a,b]):∀us:List Yd,us.length=[xa,xb].length->P us:=uS λa=>uS λb=>uZ (h a b)
noncomputable def kN(s:Ydr):aj:=match s with
 | .FunctionDef n _ _ _ _ _ _ _ _ _=>n|_=>mZ
noncomputable def kE(P:Params)(x:aj)(t:Nat)(v:Yd):DictEntry:=⟨PyData.keyHash P x,.str x t,v⟩
noncomputable def kC(n q:aj)(r t l k u:Nat):aq:=⟨.type "code",Yi,.fields #[.str n t,.str q (t+1),.str "/claim/cut.py" (t+2),.int l 0,.int k 0,.int 0 0,.int 0 0,.int 3 0,.ref r,.bool true,.int 181 0,.ref (r+1),.none,.ref (r+2),.ref (r+3),.ref (r+4),.int u 0,.int l 0,.str "/claim/cut.py" (u+1)],#[]⟩
noncomputable def kD(n q:aj)(r t l k u:Nat):aq:=⟨.type "code",Yi,.fields #[.str n t,.str q (t+1),.str "/claim/cut.py" (t+2),.int l 0,.int k 0,.int 0 0,.int 0 0,.int 3 0,.ref r,.bool true,.int 181 0,.ref (r+1),.none,.none,.none,.ref (r+2),.int u 0,.int l 0,.str "/claim/cut.py" (u+1)],#[]⟩
noncomputable def kF(s:Ydr)(n q:aj)(v m:Yd)(c:Nat):aq:=⟨.type "function",Yi,.func (W.fnOf n q (nq s) (gM s) (Zq s) v .none .none m Yi (.ref c) .none),#[]⟩
noncomputable def kU(s:Ydr)(r t l k u:Nat):aq:=kC (kN s) (kN s) r t l k u
noncomputable def kV(s:Ydr)(r t l k u:Nat):aq:=kD (kN s) (kN s) r t l k u
noncomputable def kG(s:Ydr)(m:Yd)(c:Nat):aq:=kF s (kN s) (kN s) .none m c
def mz(K:uK)(f c:Nat)(s:Ydr)(n:aj)(m:Yd):Prop:=dJ K Y2 n=Ya (Ya (.ref f))/\K.lookup f=Ya (kF s n n .none m c)/\K5 K (.ref c) n=true/\K6 K (.ref f)=true
noncomputable def kM0:Yd:=.str "stepledger.errors" 187
noncomputable def Ez:Yd:=.str "stepledger.rolls" 353
noncomputable def wB:Yd:=.str "law_stepledger_k04_no_roll" 449
noncomputable def k3(P:Params):aq:=⟨.type "dict",Yi,.dict #[kE P "__name__" 165 (.str "law_stepledger_k04_no_roll" 449),kE P "__doc__" 166 .none,kE P "__package__" 167 .none,kE P "__loader__" 168 (.builtin "__main__.__loader__#opaque"),kE P "__spec__" 169 .none,kE P "__annotations__" 170 (.ref 6),kE P "__builtins__" 171 (.ref 4),kE P "__file__" 173 (.str "/claim/cut.py" 172),kE P "__cached__" 174 .none,kE P "LedgerError" 206 (.ref 24),kE P "NoRoll" 222 (.ref 37),kE P "BadCut" 238 (.ref 49),kE P "NoTime" 254 (.ref 61),kE P "NoDispute" 270 (.ref 73),kE P "BadGiven" 286 (.ref 85),kE P "Spent" 302 (.ref 97),kE P "BadRow" 327 (.ref 116),kE P "Unfit" 352 (.ref 135),kE P "FIGURES" 356 (.str "0123456789" 355),kE P "MOST_FIGURES" 358 (.int 60 357),kE P "BOXES" 360 (.int 8 359),kE P "FORMS" 400 (.ref 138),kE P "is_number" 406 (.ref 153),kE P "read_roll" 417 (.ref 160),kE P "read_row" 430 (.ref 167),kE P "refuse_no_roll" 440 (.ref 174),kE P "is_within" 448 (.ref 181),kE P "_law_cell_at" 458 (.ref 188),kE P "_law_row" 471 (.ref 195),kE P "_law_far" 479 (.ref 202),kE P "_law_text" 485 (.ref 207),kE P "_law_good" 493 (.ref 214),kE P "_law_asked" 499 (.ref 219),kE P "_law_made" 508 (.ref 226),kE P "law" 514 (.ref 231)] 35,#[]⟩
theorem ZqH{l:PySem.W.OpenLaw}{w:aD}{K:uK}{h:ao}{mg:aj->Option Yd}{fa f0 f1 f2 f3 f4 f5 f6 f7 f8 f9 f10 f11 f12:Yl}(X:K.In h)(G:h.Ns Y2 mg)(hfa:mg "law" =Ya (.ref fa)){AgC Aeh Abe:dX}{SN:Yl}{aH bh bf aQ a_ aX bj bw aO iR iU:Yl}{Abf Aei AcG Kq Acf Aej Aek AfK KC:ClassData}{Abg Abh:aj}{Rp:Yl}{Abi Abj:List Yd}{Abk Abl:Bool}{Abm:List aj}{Abn:Option Bool}{Abo Abp:Option Yl}{Abq Abr Abs Abt Abu:Option Yd}{Abv:Yd}{Ka:Array DictEntry}{Abw:Nat}{Abx:Array (Option Yd)}{Ael Aem:aj}{Sg:Yl}{Aen Aeo:List Yd}{Aep Aeq:Bool}{Aer:List aj}{Aes:Option Bool}{Aet Aeu:Option Yl}{Aev Aew Aex Aey Aez:Option Yd}{AeA:Yd}{Kr:Array DictEntry}{AeB:Nat}{AeC:Array (Option Yd)}{AcH AcI:aj}{RJ:Yl}{AcJ AcK:List Yd}{AcL AcM:Bool}{AcN:List aj}{AcO:Option Bool}{AcP AcQ:Option Yl}{AcR AcS AcT AcU AcV:Option Yd}{AcW:Yd}{Kh:Array DictEntry}{AcX:Nat}{AcY:Array (Option Yd)}{AeD AeE:aj}{Sh:Yl}{AeF AeG:List Yd}{AeH AeI:Bool}{AeJ:List aj}{AeK:Option Bool}{AeL AeM:Option Yl}{AeN AeO AeP AeQ AeR:Option Yd}{AeS:Yd}{Ks:Array DictEntry}{AeT:Nat}{AeU:Array (Option Yd)}{Acg Ach:aj}{Rw:Yl}{Aci Acj:List Yd}{Ack Acl:Bool}{Acm:List aj}{Acn:Option Bool}{Aco Acp:Option Yl}{Acq Acr Acs Acu Acv:Option Yd}{Acw:Yd}{Kc:Array DictEntry}{Acx:Nat}{Acy:Array (Option Yd)}{AeV AeW:aj}{Sq:Yl}{AeX AeY:List Yd}{AeZ Ae0:Bool}{Ae1:List aj}{Ae2:Option Bool}{Ae3 Ae4:Option Yl}{Ae5 Ae6 Ae7 Ae8 Ae9:Option Yd}{Afa:Yd}{Ku:Array DictEntry}{Afb:Nat}{Afc:Array (Option Yd)}{Afd Afe:aj}{Ss:Yl}{Afg Afh:List Yd}{Afi Afj:Bool}{Afk:List aj}{Afl:Option Bool}{Afm Afn:Option Yl}{Afo Afp Afq Afr Afs:Option Yd}{Aft:Yd}{Kv:Array DictEntry}{Afu:Nat}{Afv:Array (Option Yd)}{AfL AfM:aj}{SQ:Yl}{AfN AfO:List Yd}{AfP AfQ:Bool}{AfR:List aj}{AfS:Option Bool}{AfT AfU:Option Yl}{AfV AfW AfX AfY AfZ:Option Yd}{Af0:Yd}{KD:Array DictEntry}{Af1:Nat}{Af2:Array (Option Yd)}{Af3 Af4:aj}{SX:Yl}{Af5 Af6:List Yd}{Af7 Af8:Bool}{Af9:List aj}{Aga:Option Bool}{Agb Agc:Option Yl}{Agd Age Agf Agg Agh:Option Yd}{Agi:Yd}{KH:Array DictEntry}{Agj:Nat}{Agk:Array (Option Yd)}{R6 Afw Afx Afy R7 Afz:Yd}{AfA AfB:Option Yl}{AfC:Array (Option Yd)}{Su Agl Agm Agn Sv Ago:Yd}{Agp Agq:Option Yl}{Agr:Array (Option Yd)}{g0 g1 g2 g3 g4 g5 g6 g7 g8 g9 g10 g11 g12:Nat}{m0 m1 m2 m3 m4 m5 m6 m7 m8 m9 m10 m11 m12:Yd}(a0:mz K f0 g0 Ba "is_number" m0)(a1:mz K f1 g1 Be "is_within" m1)(a2:mz K f2 g2 Bc "read_row" m2)(a3:mz K f3 g3 Bd "refuse_no_roll" m3)(a4:mz K f4 g4 Bb "read_roll" m4)(a5:mz K f5 g5 Bf "_law_cell_at" m5)(a6:mz K f6 g6 Bg "_law_row" m6)(a7:mz K f7 g7 Bh "_law_far" m7)(a8:mz K f8 g8 Bj "_law_text" m8)(a9:mz K f9 g9 Bk "_law_good" m9)(a10:mz K f10 g10 Bl "_law_asked" m10)(a11:mz K f11 g11 Bm "_law_made" m11)(a12:mz K f12 g12 um "law" m12)(Acz:dJ K Y2 "ValueError" =Ya Yi)(AgS:dJ K Y2 "all" =Ya Yi)(AgT:dJ K Y2 "any" =Ya Yi)(AcZ:dJ K Y2 "enumerate" =Ya Yi)(AgU:dJ K Y2 "int" =Ya Yi)(AcA:dJ K Y2 "isinstance" =Ya Yi)(AgV:dJ K Y2 "len" =Ya Yi)(AgL:dJ K Y2 "list" =Ya Yi)(AgD:dJ K Y2 "range" =Ya Yi)(AgW:dJ K Y2 "str" =Ya Yi)(AgE:dJ K Y2 "tuple" =Ya Yi)(AgX:dJ K Y2 "zip" =Ya Yi)(rZ:dJ K Y2 "BOXES" =Ya (Ya (.int 8 AgC)))(uD:dJ K Y2 "FIGURES" =Ya (Ya (.str "0123456789" Aeh)))(AgF:dJ K Y2 "FORMS" =Ya (Ya (.ref SN)))(Ac0:v_ K SN jn)(o_:dJ K Y2 "MOST_FIGURES" =Ya (Ya (.int 60 Abe)))(AaW:dJ K Y2 "LedgerError" =Ya (Ya (.ref aH)))(RK:dJ K Y2 "BadCut" =Ya (Ya (.ref bh)))(Ru:dJ K Y2 "BadGiven" =Ya (Ya (.ref bf)))(RL:dJ K Y2 "BadRow" =Ya (Ya (.ref aQ)))(Rq:dJ K Y2 "NoDispute" =Ya (Ya (.ref a_)))(RM:dJ K Y2 "NoRoll" =Ya (Ya (.ref aX)))(RN:dJ K Y2 "NoTime" =Ya (Ya (.ref bj)))(R8:dJ K Y2 "Spent" =Ya (Ya (.ref bw)))(R9:dJ K Y2 "Unfit" =Ya (Ya (.ref aO)))(iu:iY K aH=Ya Abf)(iw:sE K (.ref aH)=Ya (.type "type"))(rm:Ye K (.ref aH) (.ref aH)=Ya true)(pC:iY K bh=Ya Aei)(rE:sE K (.ref bh)=Ya (.type "type"))(rF:Ye K (.ref bh) (.ref bh)=Ya true)(pq:iY K bf=Ya AcG)(rC:sE K (.ref bf)=Ya (.type "type"))(rD:Ye K (.ref bf) (.ref bf)=Ya true)(mD:iY K aQ=Ya Kq)(rG:sE K (.ref aQ)=Ya (.type "type"))(rH:Ye K (.ref aQ) (.ref aQ)=Ya true)(ph:iY K a_=Ya Acf)(rn:sE K (.ref a_)=Ya (.type "type"))(rA:Ye K (.ref a_) (.ref a_)=Ya true)(pD:iY K aX=Ya Aej)(rJ:sE K (.ref aX)=Ya (.type "type"))(rK:Ye K (.ref aX) (.ref aX)=Ya true)(pF:iY K bj=Ya Aek)(rN:sE K (.ref bj)=Ya (.type "type"))(rO:Ye K (.ref bj) (.ref bj)=Ya true)(pH:iY K bw=Ya AfK)(rP:sE K (.ref bw)=Ya (.type "type"))(rQ:Ye K (.ref bw) (.ref bw)=Ya true)(mG:iY K aO=Ya KC)(rR:sE K (.ref aO)=Ya (.type "type"))(rW:Ye K (.ref aO) (.ref aO)=Ya true)(uw:K.lookup aH=Ya (iz Abg Abh aH Rp Abi [.type "ValueError",.type "Exception",.type "BaseException",.type "object"] Abk Abm Abj Abl Abn Abo Abq Abr Abs Abt Abu "ValueError.__new__"))(ux:K.lookup Rp=Ya ⟨Abv,Abp,.dict Ka Abw,Abx⟩)(uy:o6 Ka=true)(uz:oF Ka "__init__" =Yi)(Ac1:K.lookup bh=Ya (iz Ael Aem bh Sg Aen [.ref aH,.type "ValueError",.type "Exception",.type "BaseException",.type "object"] Aep Aer Aeo Aeq Aes Aet Aev Aew Aex Aey Aez "ValueError.__new__"))(Ac2:K.lookup Sg=Ya ⟨AeA,Aeu,.dict Kr AeB,AeC⟩)(Ac3:o6 Kr=true)(Ac4:oF Kr "__init__" =Yi)(AbZ:K.lookup bf=Ya (iz AcH AcI bf RJ AcJ [.ref aH,.type "ValueError",.type "Exception",.type "BaseException",.type "object"] AcL AcN AcK AcM AcO AcP AcR AcS AcT AcU AcV "ValueError.__new__"))(Ab0:K.lookup RJ=Ya ⟨AcW,AcQ,.dict Kh AcX,AcY⟩)(Ab1:o6 Kh=true)(Ab2:oF Kh "__init__" =Yi)(Ac5:K.lookup aQ=Ya (iz AeD AeE aQ Sh AeF [.ref aH,.type "ValueError",.type "Exception",.type "BaseException",.type "object"] AeH AeJ AeG AeI AeK AeL AeN AeO AeP AeQ AeR "ValueError.__new__"))(Ac6:K.lookup Sh=Ya ⟨AeS,AeM,.dict Ks AeT,AeU⟩)(Ac7:o6 Ks=true)(Ac8:oF Ks "__init__" =Ya (.ref iR))(Aby:K.lookup a_=Ya (iz Acg Ach a_ Rw Aci [.ref aH,.type "ValueError",.type "Exception",.type "BaseException",.type "object"] Ack Acm Acj Acl Acn Aco Acq Acr Acs Acu Acv "ValueError.__new__"))(Abz:K.lookup Rw=Ya ⟨Acw,Acp,.dict Kc Acx,Acy⟩)(AbA:o6 Kc=true)(AbB:oF Kc "__init__" =Yi)(Ac9:K.lookup aX=Ya (iz AeV AeW aX Sq AeX [.ref aH,.type "ValueError",.type "Exception",.type "BaseException",.type "object"] AeZ Ae1 AeY Ae0 Ae2 Ae3 Ae5 Ae6 Ae7 Ae8 Ae9 "ValueError.__new__"))(Ada:K.lookup Sq=Ya ⟨Afa,Ae4,.dict Ku Afb,Afc⟩)(Adb:o6 Ku=true)(Adc:oF Ku "__init__" =Yi)(Ade:K.lookup bj=Ya (iz Afd Afe bj Ss Afg [.ref aH,.type "ValueError",.type "Exception",.type "BaseException",.type "object"] Afi Afk Afh Afj Afl Afm Afo Afp Afq Afr Afs "ValueError.__new__"))(Adf:K.lookup Ss=Ya ⟨Aft,Afn,.dict Kv Afu,Afv⟩)(Adg:o6 Kv=true)(Adh:oF Kv "__init__" =Yi)(AdQ:K.lookup bw=Ya (iz AfL AfM bw SQ AfN [.ref aH,.type "ValueError",.type "Exception",.type "BaseException",.type "object"] AfP AfR AfO AfQ AfS AfT AfV AfW AfX AfY AfZ "ValueError.__new__"))(AdR:K.lookup SQ=Ya ⟨Af0,AfU,.dict KD Af1,Af2⟩)(AdS:o6 KD=true)(AdT:oF KD "__init__" =Yi)(AdU:K.lookup aO=Ya (iz Af3 Af4 aO SX Af5 [.ref aH,.type "ValueError",.type "Exception",.type "BaseException",.type "object"] Af7 Af9 Af6 Af8 Aga Agb Agd Age Agf Agg Agh "ValueError.__new__"))(AdV:K.lookup SX=Ya ⟨Agi,Agc,.dict KH Agj,Agk⟩)(AdW:o6 KH=true)(AdX:oF KH "__init__" =Ya (.ref iU))(Ahc:Yr K (.ref aQ) "__init__" =Ya (Ya (.ref iR)))(Adi:K.lookup iR=Ya ⟨R6,AfA,.func (W.fnOf "__init__" "BadRow.__init__" (nq yx) (gM yx) (Zq yx) .none Afw Afx Afy AfB R7 Afz),AfC⟩)(Adj:K5 K R7 "BadRow.__init__" =true)(Adk:K6 K (.ref iR)=true)(Adl:R6= .type "function")(Rx:Kq.hasDict=true)(Adm:Kq.mro= .ref aQ:: .ref aH::PySem.W.n_)(Adn:Yr K (.ref aQ) "__setattr__" =Ya (Ya (.builtin "object.__setattr__")))(Ry:Yr K (.ref aQ) "row" =Ya Yi)(Ado:wL K (.ref aH) "__getattribute__" =Ya (Ya (.builtin "type.__getattribute__")))(Adp:FJ K aH (.type "type")=true)(Adq:FN K (.ref aH) (.type "type") "__init__" =Ya (.val (.builtin "ValueError.__init__")))(Ahe:Yr K (.ref aO) "__init__" =Ya (Ya (.ref iU)))(AdY:K.lookup iU=Ya ⟨Su,Agp,.func (W.fnOf "__init__" "Unfit.__init__" (nq yC) (gM yC) (Zq yC) .none Agl Agm Agn Agq Sv Ago),Agr⟩)(AdZ:K5 K Sv "Unfit.__init__" =true)(Ad0:K6 K (.ref iU)=true)(Ad1:Su= .type "function")(RP:KC.hasDict=true)(Ad2:KC.mro= .ref aO:: .ref aH::PySem.W.n_)(Ad3:Yr K (.ref aO) "__setattr__" =Ya (Ya (.builtin "object.__setattr__")))(RQ:Yr K (.ref aO) "fault" =Ya Yi)(Ad4:wL K (.ref aH) "__getattribute__" =Ya (Ya (.builtin "type.__getattribute__")))(Ad5:FJ K aH (.type "type")=true)(Ad6:FN K (.ref aH) (.type "type") "__init__" =Ya (.val (.builtin "ValueError.__init__")))(Ads:Yr K (.ref bh) "__getattribute__" =Ya (Ya (.builtin "BaseException.__getattribute__")))(Adt:Yr K (.ref bh) "__getattr__" =Ya Yi)(Adu:eX K bh (.type "BaseException")=Ya true)(Adv:Yr K (.ref bh) "__class__" =Ya (Ya (.builtin "object.__class__")))(Adw:eX K bh (.type "object")=Ya true)(Ab3:Yr K (.ref bf) "__getattribute__" =Ya (Ya (.builtin "BaseException.__getattribute__")))(Ab4:Yr K (.ref bf) "__getattr__" =Ya Yi)(Ab5:eX K bf (.type "BaseException")=Ya true)(Ab6:Yr K (.ref bf) "__class__" =Ya (Ya (.builtin "object.__class__")))(Ab7:eX K bf (.type "object")=Ya true)(Rz:Yr K (.ref aQ) "__getattribute__" =Ya (Ya (.builtin "BaseException.__getattribute__")))(RB:Yr K (.ref aQ) "__getattr__" =Ya Yi)(RD:eX K aQ (.type "BaseException")=Ya true)(Adx:Yr K (.ref aQ) "__class__" =Ya (Ya (.builtin "object.__class__")))(RG:eX K aQ (.type "object")=Ya true)(AbC:Yr K (.ref a_) "__getattribute__" =Ya (Ya (.builtin "BaseException.__getattribute__")))(AbD:Yr K (.ref a_) "__getattr__" =Ya Yi)(AbE:eX K a_ (.type "BaseException")=Ya true)(AbF:Yr K (.ref a_) "__class__" =Ya (Ya (.builtin "object.__class__")))(AbG:eX K a_ (.type "object")=Ya true)(Ady:Yr K (.ref aX) "__getattribute__" =Ya (Ya (.builtin "BaseException.__getattribute__")))(Adz:Yr K (.ref aX) "__getattr__" =Ya Yi)(AdA:eX K aX (.type "BaseException")=Ya true)(AdB:Yr K (.ref aX) "__class__" =Ya (Ya (.builtin "object.__class__")))(AdC:eX K aX (.type "object")=Ya true)(AdD:Yr K (.ref bj) "__getattribute__" =Ya (Ya (.builtin "BaseException.__getattribute__")))(AdE:Yr K (.ref bj) "__getattr__" =Ya Yi)(AdF:eX K bj (.type "BaseException")=Ya true)(AdG:Yr K (.ref bj) "__class__" =Ya (Ya (.builtin "object.__class__")))(AdH:eX K bj (.type "object")=Ya true)(Ad7:Yr K (.ref bw) "__getattribute__" =Ya (Ya (.builtin "BaseException.__getattribute__")))(Ad8:Yr K (.ref bw) "__getattr__" =Ya Yi)(Ad9:eX K bw (.type "BaseException")=Ya true)(Aea:Yr K (.ref bw) "__class__" =Ya (Ya (.builtin "object.__class__")))(Aeb:eX K bw (.type "object")=Ya true)(RT:Yr K (.ref aO) "__getattribute__" =Ya (Ya (.builtin "BaseException.__getattribute__")))(RV:Yr K (.ref aO) "__getattr__" =Ya Yi)(RW:eX K aO (.type "BaseException")=Ya true)(Aec:Yr K (.ref aO) "__class__" =Ya (Ya (.builtin "object.__class__")))(RX:eX K aO (.type "object")=Ya true)(uF:wL K (.builtin "object.__class__") "__get__" =Ya (Ya (.builtin "getset_descriptor.__get__")))(uG:K1 K (.builtin "object.__class__")=Ya true)(ut:Ye K (.ref aH) (.type "BaseException")=Ya true)(Rj:Ye K (.ref aO) (.ref aH)=Ya true)(Rk:Ye K (.ref bw) (.ref aH)=Ya true)(Rf:Ye K (.ref bj) (.ref aH)=Ya true)(Rg:Ye K (.ref aX) (.ref aH)=Ya true)(Rb:Ye K (.ref a_) (.ref aH)=Ya true)(Rh:Ye K (.ref aQ) (.ref aH)=Ya true)(Rc:Ye K (.ref bf) (.ref aH)=Ya true)(Ri:Ye K (.ref bh) (.ref aH)=Ya true)(Aaz:Ye K (.type "NoneType") (.ref aX)=Ya false)(AaX:Ye K (.ref aX) (.ref aX)=Ya true)(AbH:Ye K (.ref aO) (.ref aX)=Ya false)(AbI:Ye K (.ref bw) (.ref aX)=Ya false)(AaY:Ye K (.ref bj) (.ref aX)=Ya false)(Aao:Ye K (.ref a_) (.ref aX)=Ya false)(AaZ:Ye K (.ref aQ) (.ref aX)=Ya false)(AaA:Ye K (.ref bf) (.ref aX)=Ya false)(Aa0:Ye K (.ref bh) (.ref aX)=Ya false)(Aac:Ye K (.type "NoneType") (.type "ValueError")=Ya false)(Aap:Ye K (.ref aO) (.type "ValueError")=Ya true)(Aaq:Ye K (.ref bw) (.type "ValueError")=Ya true)(Aai:Ye K (.ref bj) (.type "ValueError")=Ya true)(Aaj:Ye K (.ref aX) (.type "ValueError")=Ya true)(Aaa:Ye K (.ref a_) (.type "ValueError")=Ya true)(Aak:Ye K (.ref aQ) (.type "ValueError")=Ya true)(Aad:Ye K (.ref bf) (.type "ValueError")=Ya true)(Aal:Ye K (.ref bh) (.type "ValueError")=Ya true)(AaB:Ye K (.type "NoneType") (.ref aQ)=Ya false)(Aa1:Ye K (.ref aQ) (.ref aQ)=Ya true)(AbJ:Ye K (.ref aO) (.ref aQ)=Ya false)(AbK:Ye K (.ref bw) (.ref aQ)=Ya false)(Aa2:Ye K (.ref bj) (.ref aQ)=Ya false)(Aa3:Ye K (.ref aX) (.ref aQ)=Ya false)(Aar:Ye K (.ref a_) (.ref aQ)=Ya false)(AaC:Ye K (.ref bf) (.ref aQ)=Ya false)(Aa4:Ye K (.ref bh) (.ref aQ)=Ya false)(AaP:Ye K (.type "NoneType") (.ref aO)=Ya false)(Ab8:Ye K (.ref aO) (.ref aO)=Ya true)(Ab9:Ye K (.ref bw) (.ref aO)=Ya false)(AbL:Ye K (.ref bj) (.ref aO)=Ya false)(AbM:Ye K (.ref aX) (.ref aO)=Ya false)(AaD:Ye K (.ref a_) (.ref aO)=Ya false)(AbN:Ye K (.ref aQ) (.ref aO)=Ya false)(AaQ:Ye K (.ref bf) (.ref aO)=Ya false)(AbO:Ye K (.ref bh) (.ref aO)=Ya false)(AaR:Ye K (.type "NoneType") (.ref bw)=Ya false)(Aca:Ye K (.ref bw) (.ref bw)=Ya true)(Acb:Ye K (.ref aO) (.ref bw)=Ya false)(AbP:Ye K (.ref bj) (.ref bw)=Ya false)(AbQ:Ye K (.ref aX) (.ref bw)=Ya false)(AaE:Ye K (.ref a_) (.ref bw)=Ya false)(AbR:Ye K (.ref aQ) (.ref bw)=Ya false)(AaS:Ye K (.ref bf) (.ref bw)=Ya false)(AbS:Ye K (.ref bh) (.ref bw)=Ya false)(AaF:Ye K (.type "NoneType") (.ref bj)=Ya false)(Aa5:Ye K (.ref bj) (.ref bj)=Ya true)(AbT:Ye K (.ref aO) (.ref bj)=Ya false)(AbU:Ye K (.ref bw) (.ref bj)=Ya false)(Aa6:Ye K (.ref aX) (.ref bj)=Ya false)(Aas:Ye K (.ref a_) (.ref bj)=Ya false)(Aa7:Ye K (.ref aQ) (.ref bj)=Ya false)(AaG:Ye K (.ref bf) (.ref bj)=Ya false)(Aa8:Ye K (.ref bh) (.ref bj)=Ya false)(Aaf:Ye K (.type "NoneType") (.ref a_)=Ya false)(Aae:Ye K (.ref a_) (.ref a_)=Ya true)(AaH:Ye K (.ref aO) (.ref a_)=Ya false)(AaI:Ye K (.ref bw) (.ref a_)=Ya false)(Aat:Ye K (.ref bj) (.ref a_)=Ya false)(Aau:Ye K (.ref aX) (.ref a_)=Ya false)(Aav:Ye K (.ref aQ) (.ref a_)=Ya false)(Aag:Ye K (.ref bf) (.ref a_)=Ya false)(Aaw:Ye K (.ref bh) (.ref a_)=Ya false)(Aam:Ye K (.type "NoneType") (.ref bf)=Ya false)(Aan:Ye K (.ref bf) (.ref bf)=Ya true)(AaT:Ye K (.ref aO) (.ref bf)=Ya false)(AaU:Ye K (.ref bw) (.ref bf)=Ya false)(AaJ:Ye K (.ref bj) (.ref bf)=Ya false)(AaK:Ye K (.ref aX) (.ref bf)=Ya false)(Aah:Ye K (.ref a_) (.ref bf)=Ya false)(AaL:Ye K (.ref aQ) (.ref bf)=Ya false)(AaM:Ye K (.ref bh) (.ref bf)=Ya false)(AaN:Ye K (.type "NoneType") (.ref bh)=Ya false)(Aa9:Ye K (.ref bh) (.ref bh)=Ya true)(AbV:Ye K (.ref aO) (.ref bh)=Ya false)(AbW:Ye K (.ref bw) (.ref bh)=Ya false)(Aba:Ye K (.ref bj) (.ref bh)=Ya false)(Abb:Ye K (.ref aX) (.ref bh)=Ya false)(Aax:Ye K (.ref a_) (.ref bh)=Ya false)(Abd:Ye K (.ref aQ) (.ref bh)=Ya false)(AaO:Ye K (.ref bf) (.ref bh)=Ya false)(Aab:Ye K (.type "NoneType") (.ref aH)=Ya false):
  ∃fd:fC,(∀(s:Yg) (v:Yd),yW s fd ⟨[v],[]⟩ [("script",v)])/\∀base:ao,K.In base->base.Ns Y2 mg->dN l.prog w K mg base nA 5 fa fd ["script"] (xZ K 1 ZkF):=by
 have e:=hfa.symm.trans (jP X G a12.1);cases e;have T:Txt K mg:=⟨trivial,mR X G Acz,mR X G AgS,mR X G AgT,mR X G AcZ,mR X G AgU,mR X G AcA,mR X G AgV,mR X G AgL,mR X G AgD,mR X G AgW,mR X G AgE,mR X G AgX,⟨_,jP X G rZ⟩,⟨_,jP X G uD⟩,⟨_,jP X G AgF,Ac0⟩,⟨_,jP X G o_⟩⟩;have mH:ClsAt K [66,97,100,67,117,116] bh:=by unfold L3.ClsAt;rw[show(⟨([66,97,100,67,117,116]:List Nat).toArray⟩:aj)= "BadCut" by decide +kernel];exact RK
 have pI:Zh K bh:=⟨Ads,Adt,Adu,by rw[pC];rfl,Adv,uF,uG,Adw⟩;have mF:ClsAt K [66,97,100,71,105,118,101,110] bf:=by unfold L3.ClsAt;rw[show(⟨([66,97,100,71,105,118,101,110]:List Nat).toArray⟩:aj)= "BadGiven" by decide +kernel];exact Ru
 have pG:Zh K bf:=⟨Ab3,Ab4,Ab5,by rw[pq];rfl,Ab6,uF,uG,Ab7⟩;have kW:ClsAt K [66,97,100,82,111,119] aQ:=by unfold L3.ClsAt;rw[show(⟨([66,97,100,82,111,119]:List Nat).toArray⟩:aj)= "BadRow" by decide +kernel];exact RL
 have pJ:Zh K aQ:=⟨Rz,RB,RD,by rw[mD];rfl,Adx,uF,uG,RG⟩;have mC:ClsAt K [78,111,68,105,115,112,117,116,101] a_:=by unfold L3.ClsAt;rw[show(⟨([78,111,68,105,115,112,117,116,101]:List Nat).toArray⟩:aj)= "NoDispute" by decide +kernel];exact Rq
 have pB:Zh K a_:=⟨AbC,AbD,AbE,by rw[ph];rfl,AbF,uF,uG,AbG⟩;have mJ:ClsAt K [78,111,82,111,108,108] aX:=by unfold L3.ClsAt;rw[show(⟨([78,111,82,111,108,108]:List Nat).toArray⟩:aj)= "NoRoll" by decide +kernel];exact RM
 have pK:Zh K aX:=⟨Ady,Adz,AdA,by rw[pD];rfl,AdB,uF,uG,AdC⟩;have mK:ClsAt K [78,111,84,105,109,101] bj:=by unfold L3.ClsAt;rw[show(⟨([78,111,84,105,109,101]:List Nat).toArray⟩:aj)= "NoTime" by decide +kernel];exact RN
 have pM:Zh K bj:=⟨AdD,AdE,AdF,by rw[pF];rfl,AdG,uF,uG,AdH⟩;have mL:ClsAt K [83,112,101,110,116] bw:=by unfold L3.ClsAt;rw[show(⟨([83,112,101,110,116]:List Nat).toArray⟩:aj)= "Spent" by decide +kernel];exact R8
 have pN:Zh K bw:=⟨Ad7,Ad8,Ad9,by rw[pH];rfl,Aea,uF,uG,Aeb⟩;have kY:ClsAt K [85,110,102,105,116] aO:=by unfold L3.ClsAt;rw[show(⟨([85,110,102,105,116]:List Nat).toArray⟩:aj)= "Unfit" by decide +kernel];exact R9
 have pO:Zh K aO:=⟨RT,RV,RW,by rw[mG];rfl,Aec,uF,uG,RX⟩
 have XO:yD K mg aH bh bf aQ a_ aX bj bw aO iR iU:=⟨jP X G AaW,jP X G RK,jP X G Ru,jP X G RL,jP X G Rq,jP X G RM,jP X G RN,jP X G R8,jP X G R9,⟨mH,_,_,_,_,_,_,_,_,_,_,_,_,_,_,_,_,Ac1,λh Y=>⟨_,jm Y Ac2 Ac3,Ac4⟩,λh Y=>.own (Y _ _ uw) (jm Y ux uy) uz (.base)⟩,⟨mF,_,_,_,_,_,_,_,_,_,_,_,_,_,_,_,_,AbZ,λh Y=>⟨_,jm Y Ab0 Ab1,Ab2⟩,λh Y=>.own (Y _ _ uw) (jm Y ux uy) uz (.base)⟩,ZnJ kW Ac5 (λh Y=>⟨_,jm Y Ac6 Ac7,Ac8⟩) (λh Y=>.own (Y _ _ uw) (jm Y ux uy) uz (.base)) mD Rx Adm Adn Ry RG Ado Adp Adq Adi Adj Adk Adl (Binds.all λus hl=>match us,hl with|[_,_],_=>rfl),⟨mC,_,_,_,_,_,_,_,_,_,_,_,_,_,_,_,_,Aby,λh Y=>⟨_,jm Y Abz AbA,AbB⟩,λh Y=>.own (Y _ _ uw) (jm Y ux uy) uz (.base)⟩,⟨mJ,_,_,_,_,_,_,_,_,_,_,_,_,_,_,_,_,Ac9,λh Y=>⟨_,jm Y Ada Adb,Adc⟩,λh Y=>.own (Y _ _ uw) (jm Y ux uy) uz (.base)⟩,⟨mK,_,_,_,_,_,_,_,_,_,_,_,_,_,_,_,_,Ade,λh Y=>⟨_,jm Y Adf Adg,Adh⟩,λh Y=>.own (Y _ _ uw) (jm Y ux uy) uz (.base)⟩,⟨mL,_,_,_,_,_,_,_,_,_,_,_,_,_,_,_,_,AdQ,λh Y=>⟨_,jm Y AdR AdS,AdT⟩,λh Y=>.own (Y _ _ uw) (jm Y ux uy) uz (.base)⟩,ZnJ kY AdU (λh Y=>⟨_,jm Y AdV AdW,AdX⟩) (λh Y=>.own (Y _ _ uw) (jm Y ux uy) uz (.base)) mG RP Ad2 Ad3 RQ RX Ad4 Ad5 Ad6 AdY AdZ Ad0 Ad1 (Binds.all λus hl=>match us,hl with|[_,_],_=>rfl),ZgL kW Rz RB RD mD Rx Ry,ZgL kY RT RV RW mG RP RQ,(Zf (P:=λC=>pW K (.ref C) (.ref aH)=Ya true) mH (PySem.W.uH iu iw ut Ri) (Zf (P:=λC=>pW K (.ref C) (.ref aH)=Ya true) mF (PySem.W.uH iu iw ut Rc) (Zf (P:=λC=>pW K (.ref C) (.ref aH)=Ya true) kW (PySem.W.uH iu iw ut Rh) (Zf (P:=λC=>pW K (.ref C) (.ref aH)=Ya true) mC (PySem.W.uH iu iw ut Rb) (Zf (P:=λC=>pW K (.ref C) (.ref aH)=Ya true) mJ (PySem.W.uH iu iw ut Rg) (Zf (P:=λC=>pW K (.ref C) (.ref aH)=Ya true) mK (PySem.W.uH iu iw ut Rf) (Zf (P:=λC=>pW K (.ref C) (.ref aH)=Ya true) mL (PySem.W.uH iu iw ut Rk) (Zf (P:=λC=>pW K (.ref C) (.ref aH)=Ya true) kY (PySem.W.uH iu iw ut Rj) gk)))))))),⟨(PySem.W.aK (PySem.W.aG pD rJ rK Aaz) PySem.W.aM),(Zf (P:=λC=>Zh K C/\Yf K (.ref C) [.ref aX]=Ya true) mJ ⟨pK,(PySem.W.d9 (PySem.W.aG pD rJ rK AaX))⟩ gk),(Zf (P:=λC=>Zh K C/\Yf K (.ref C) [.ref aX]=Ya false) mH ⟨pI,(PySem.W.aK (PySem.W.aG pD rJ rK Aa0) PySem.W.aM)⟩ (Zf (P:=λC=>Zh K C/\Yf K (.ref C) [.ref aX]=Ya false) mF ⟨pG,(PySem.W.aK (PySem.W.aG pD rJ rK AaA) PySem.W.aM)⟩ (Zf (P:=λC=>Zh K C/\Yf K (.ref C) [.ref aX]=Ya false) kW ⟨pJ,(PySem.W.aK (PySem.W.aG pD rJ rK AaZ) PySem.W.aM)⟩ (Zf (P:=λC=>Zh K C/\Yf K (.ref C) [.ref aX]=Ya false) mC ⟨pB,(PySem.W.aK (PySem.W.aG pD rJ rK Aao) PySem.W.aM)⟩ (Zf (P:=λC=>Zh K C/\Yf K (.ref C) [.ref aX]=Ya false) mK ⟨pM,(PySem.W.aK (PySem.W.aG pD rJ rK AaY) PySem.W.aM)⟩ (Zf (P:=λC=>Zh K C/\Yf K (.ref C) [.ref aX]=Ya false) mL ⟨pN,(PySem.W.aK (PySem.W.aG pD rJ rK AbI) PySem.W.aM)⟩ (Zf (P:=λC=>Zh K C/\Yf K (.ref C) [.ref aX]=Ya false) kY ⟨pO,(PySem.W.aK (PySem.W.aG pD rJ rK AbH) PySem.W.aM)⟩ gk)))))))⟩,⟨(PySem.W.aK (PySem.W.su (by decide +kernel) (by first|rfl|decide) Aac) PySem.W.aM),(Zf (P:=λC=>Zh K C/\Yf K (.ref C) [.type "ValueError"]=Ya true) mH ⟨pI,(PySem.W.d9 (PySem.W.su (by decide +kernel) (by first|rfl|decide) Aal))⟩ (Zf (P:=λC=>Zh K C/\Yf K (.ref C) [.type "ValueError"]=Ya true) mF ⟨pG,(PySem.W.d9 (PySem.W.su (by decide +kernel) (by first|rfl|decide) Aad))⟩ (Zf (P:=λC=>Zh K C/\Yf K (.ref C) [.type "ValueError"]=Ya true) kW ⟨pJ,(PySem.W.d9 (PySem.W.su (by decide +kernel) (by first|rfl|decide) Aak))⟩ (Zf (P:=λC=>Zh K C/\Yf K (.ref C) [.type "ValueError"]=Ya true) mC ⟨pB,(PySem.W.d9 (PySem.W.su (by decide +kernel) (by first|rfl|decide) Aaa))⟩ (Zf (P:=λC=>Zh K C/\Yf K (.ref C) [.type "ValueError"]=Ya true) mJ ⟨pK,(PySem.W.d9 (PySem.W.su (by decide +kernel) (by first|rfl|decide) Aaj))⟩ (Zf (P:=λC=>Zh K C/\Yf K (.ref C) [.type "ValueError"]=Ya true) mK ⟨pM,(PySem.W.d9 (PySem.W.su (by decide +kernel) (by first|rfl|decide) Aai))⟩ (Zf (P:=λC=>Zh K C/\Yf K (.ref C) [.type "ValueError"]=Ya true) mL ⟨pN,(PySem.W.d9 (PySem.W.su (by decide +kernel) (by first|rfl|decide) Aaq))⟩ (Zf (P:=λC=>Zh K C/\Yf K (.ref C) [.type "ValueError"]=Ya true) kY ⟨pO,(PySem.W.d9 (PySem.W.su (by decide +kernel) (by first|rfl|decide) Aap))⟩ gk)))))))),gk⟩,⟨(PySem.W.aK (PySem.W.aG mD rG rH AaB) PySem.W.aM),(Zf (P:=λC=>Zh K C/\Yf K (.ref C) [.ref aQ]=Ya true) kW ⟨pJ,(PySem.W.d9 (PySem.W.aG mD rG rH Aa1))⟩ gk),(Zf (P:=λC=>Zh K C/\Yf K (.ref C) [.ref aQ]=Ya false) mH ⟨pI,(PySem.W.aK (PySem.W.aG mD rG rH Aa4) PySem.W.aM)⟩ (Zf (P:=λC=>Zh K C/\Yf K (.ref C) [.ref aQ]=Ya false) mF ⟨pG,(PySem.W.aK (PySem.W.aG mD rG rH AaC) PySem.W.aM)⟩ (Zf (P:=λC=>Zh K C/\Yf K (.ref C) [.ref aQ]=Ya false) mC ⟨pB,(PySem.W.aK (PySem.W.aG mD rG rH Aar) PySem.W.aM)⟩ (Zf (P:=λC=>Zh K C/\Yf K (.ref C) [.ref aQ]=Ya false) mJ ⟨pK,(PySem.W.aK (PySem.W.aG mD rG rH Aa3) PySem.W.aM)⟩ (Zf (P:=λC=>Zh K C/\Yf K (.ref C) [.ref aQ]=Ya false) mK ⟨pM,(PySem.W.aK (PySem.W.aG mD rG rH Aa2) PySem.W.aM)⟩ (Zf (P:=λC=>Zh K C/\Yf K (.ref C) [.ref aQ]=Ya false) mL ⟨pN,(PySem.W.aK (PySem.W.aG mD rG rH AbK) PySem.W.aM)⟩ (Zf (P:=λC=>Zh K C/\Yf K (.ref C) [.ref aQ]=Ya false) kY ⟨pO,(PySem.W.aK (PySem.W.aG mD rG rH AbJ) PySem.W.aM)⟩ gk)))))))⟩,⟨(PySem.W.aK (PySem.W.aG mG rR rW AaP) PySem.W.aM),(Zf (P:=λC=>Zh K C/\Yf K (.ref C) [.ref aO]=Ya true) kY ⟨pO,(PySem.W.d9 (PySem.W.aG mG rR rW Ab8))⟩ gk),(Zf (P:=λC=>Zh K C/\Yf K (.ref C) [.ref aO]=Ya false) mH ⟨pI,(PySem.W.aK (PySem.W.aG mG rR rW AbO) PySem.W.aM)⟩ (Zf (P:=λC=>Zh K C/\Yf K (.ref C) [.ref aO]=Ya false) mF ⟨pG,(PySem.W.aK (PySem.W.aG mG rR rW AaQ) PySem.W.aM)⟩ (Zf (P:=λC=>Zh K C/\Yf K (.ref C) [.ref aO]=Ya false) kW ⟨pJ,(PySem.W.aK (PySem.W.aG mG rR rW AbN) PySem.W.aM)⟩ (Zf (P:=λC=>Zh K C/\Yf K (.ref C) [.ref aO]=Ya false) mC ⟨pB,(PySem.W.aK (PySem.W.aG mG rR rW AaD) PySem.W.aM)⟩ (Zf (P:=λC=>Zh K C/\Yf K (.ref C) [.ref aO]=Ya false) mJ ⟨pK,(PySem.W.aK (PySem.W.aG mG rR rW AbM) PySem.W.aM)⟩ (Zf (P:=λC=>Zh K C/\Yf K (.ref C) [.ref aO]=Ya false) mK ⟨pM,(PySem.W.aK (PySem.W.aG mG rR rW AbL) PySem.W.aM)⟩ (Zf (P:=λC=>Zh K C/\Yf K (.ref C) [.ref aO]=Ya false) mL ⟨pN,(PySem.W.aK (PySem.W.aG mG rR rW Ab9) PySem.W.aM)⟩ gk)))))))⟩,⟨(PySem.W.aK (PySem.W.aG pH rP rQ AaR) PySem.W.aM),(Zf (P:=λC=>Zh K C/\Yf K (.ref C) [.ref bw]=Ya true) mL ⟨pN,(PySem.W.d9 (PySem.W.aG pH rP rQ Aca))⟩ gk),(Zf (P:=λC=>Zh K C/\Yf K (.ref C) [.ref bw]=Ya false) mH ⟨pI,(PySem.W.aK (PySem.W.aG pH rP rQ AbS) PySem.W.aM)⟩ (Zf (P:=λC=>Zh K C/\Yf K (.ref C) [.ref bw]=Ya false) mF ⟨pG,(PySem.W.aK (PySem.W.aG pH rP rQ AaS) PySem.W.aM)⟩ (Zf (P:=λC=>Zh K C/\Yf K (.ref C) [.ref bw]=Ya false) kW ⟨pJ,(PySem.W.aK (PySem.W.aG pH rP rQ AbR) PySem.W.aM)⟩ (Zf (P:=λC=>Zh K C/\Yf K (.ref C) [.ref bw]=Ya false) mC ⟨pB,(PySem.W.aK (PySem.W.aG pH rP rQ AaE) PySem.W.aM)⟩ (Zf (P:=λC=>Zh K C/\Yf K (.ref C) [.ref bw]=Ya false) mJ ⟨pK,(PySem.W.aK (PySem.W.aG pH rP rQ AbQ) PySem.W.aM)⟩ (Zf (P:=λC=>Zh K C/\Yf K (.ref C) [.ref bw]=Ya false) mK ⟨pM,(PySem.W.aK (PySem.W.aG pH rP rQ AbP) PySem.W.aM)⟩ (Zf (P:=λC=>Zh K C/\Yf K (.ref C) [.ref bw]=Ya false) kY ⟨pO,(PySem.W.aK (PySem.W.aG pH rP rQ Acb) PySem.W.aM)⟩ gk)))))))⟩,⟨(PySem.W.aK (PySem.W.aG pF rN rO AaF) PySem.W.aM),(Zf (P:=λC=>Zh K C/\Yf K (.ref C) [.ref bj]=Ya true) mK ⟨pM,(PySem.W.d9 (PySem.W.aG pF rN rO Aa5))⟩ gk),(Zf (P:=λC=>Zh K C/\Yf K (.ref C) [.ref bj]=Ya false) mH ⟨pI,(PySem.W.aK (PySem.W.aG pF rN rO Aa8) PySem.W.aM)⟩ (Zf (P:=λC=>Zh K C/\Yf K (.ref C) [.ref bj]=Ya false) mF ⟨pG,(PySem.W.aK (PySem.W.aG pF rN rO AaG) PySem.W.aM)⟩ (Zf (P:=λC=>Zh K C/\Yf K (.ref C) [.ref bj]=Ya false) kW ⟨pJ,(PySem.W.aK (PySem.W.aG pF rN rO Aa7) PySem.W.aM)⟩ (Zf (P:=λC=>Zh K C/\Yf K (.ref C) [.ref bj]=Ya false) mC ⟨pB,(PySem.W.aK (PySem.W.aG pF rN rO Aas) PySem.W.aM)⟩ (Zf (P:=λC=>Zh K C/\Yf K (.ref C) [.ref bj]=Ya false) mJ ⟨pK,(PySem.W.aK (PySem.W.aG pF rN rO Aa6) PySem.W.aM)⟩ (Zf (P:=λC=>Zh K C/\Yf K (.ref C) [.ref bj]=Ya false) mL ⟨pN,(PySem.W.aK (PySem.W.aG pF rN rO AbU) PySem.W.aM)⟩ (Zf (P:=λC=>Zh K C/\Yf K (.ref C) [.ref bj]=Ya false) kY ⟨pO,(PySem.W.aK (PySem.W.aG pF rN rO AbT) PySem.W.aM)⟩ gk)))))))⟩,⟨(PySem.W.aK (PySem.W.aG ph rn rA Aaf) PySem.W.aM),(Zf (P:=λC=>Zh K C/\Yf K (.ref C) [.ref a_]=Ya true) mC ⟨pB,(PySem.W.d9 (PySem.W.aG ph rn rA Aae))⟩ gk),(Zf (P:=λC=>Zh K C/\Yf K (.ref C) [.ref a_]=Ya false) mH ⟨pI,(PySem.W.aK (PySem.W.aG ph rn rA Aaw) PySem.W.aM)⟩ (Zf (P:=λC=>Zh K C/\Yf K (.ref C) [.ref a_]=Ya false) mF ⟨pG,(PySem.W.aK (PySem.W.aG ph rn rA Aag) PySem.W.aM)⟩ (Zf (P:=λC=>Zh K C/\Yf K (.ref C) [.ref a_]=Ya false) kW ⟨pJ,(PySem.W.aK (PySem.W.aG ph rn rA Aav) PySem.W.aM)⟩ (Zf (P:=λC=>Zh K C/\Yf K (.ref C) [.ref a_]=Ya false) mJ ⟨pK,(PySem.W.aK (PySem.W.aG ph rn rA Aau) PySem.W.aM)⟩ (Zf (P:=λC=>Zh K C/\Yf K (.ref C) [.ref a_]=Ya false) mK ⟨pM,(PySem.W.aK (PySem.W.aG ph rn rA Aat) PySem.W.aM)⟩ (Zf (P:=λC=>Zh K C/\Yf K (.ref C) [.ref a_]=Ya false) mL ⟨pN,(PySem.W.aK (PySem.W.aG ph rn rA AaI) PySem.W.aM)⟩ (Zf (P:=λC=>Zh K C/\Yf K (.ref C) [.ref a_]=Ya false) kY ⟨pO,(PySem.W.aK (PySem.W.aG ph rn rA AaH) PySem.W.aM)⟩ gk)))))))⟩,⟨(PySem.W.aK (PySem.W.aG pq rC rD Aam) PySem.W.aM),(Zf (P:=λC=>Zh K C/\Yf K (.ref C) [.ref bf]=Ya true) mF ⟨pG,(PySem.W.d9 (PySem.W.aG pq rC rD Aan))⟩ gk),(Zf (P:=λC=>Zh K C/\Yf K (.ref C) [.ref bf]=Ya false) mH ⟨pI,(PySem.W.aK (PySem.W.aG pq rC rD AaM) PySem.W.aM)⟩ (Zf (P:=λC=>Zh K C/\Yf K (.ref C) [.ref bf]=Ya false) kW ⟨pJ,(PySem.W.aK (PySem.W.aG pq rC rD AaL) PySem.W.aM)⟩ (Zf (P:=λC=>Zh K C/\Yf K (.ref C) [.ref bf]=Ya false) mC ⟨pB,(PySem.W.aK (PySem.W.aG pq rC rD Aah) PySem.W.aM)⟩ (Zf (P:=λC=>Zh K C/\Yf K (.ref C) [.ref bf]=Ya false) mJ ⟨pK,(PySem.W.aK (PySem.W.aG pq rC rD AaK) PySem.W.aM)⟩ (Zf (P:=λC=>Zh K C/\Yf K (.ref C) [.ref bf]=Ya false) mK ⟨pM,(PySem.W.aK (PySem.W.aG pq rC rD AaJ) PySem.W.aM)⟩ (Zf (P:=λC=>Zh K C/\Yf K (.ref C) [.ref bf]=Ya false) mL ⟨pN,(PySem.W.aK (PySem.W.aG pq rC rD AaU) PySem.W.aM)⟩ (Zf (P:=λC=>Zh K C/\Yf K (.ref C) [.ref bf]=Ya false) kY ⟨pO,(PySem.W.aK (PySem.W.aG pq rC rD AaT) PySem.W.aM)⟩ gk)))))))⟩,⟨(PySem.W.aK (PySem.W.aG pC rE rF AaN) PySem.W.aM),(Zf (P:=λC=>Zh K C/\Yf K (.ref C) [.ref bh]=Ya true) mH ⟨pI,(PySem.W.d9 (PySem.W.aG pC rE rF Aa9))⟩ gk),(Zf (P:=λC=>Zh K C/\Yf K (.ref C) [.ref bh]=Ya false) mF ⟨pG,(PySem.W.aK (PySem.W.aG pC rE rF AaO) PySem.W.aM)⟩ (Zf (P:=λC=>Zh K C/\Yf K (.ref C) [.ref bh]=Ya false) kW ⟨pJ,(PySem.W.aK (PySem.W.aG pC rE rF Abd) PySem.W.aM)⟩ (Zf (P:=λC=>Zh K C/\Yf K (.ref C) [.ref bh]=Ya false) mC ⟨pB,(PySem.W.aK (PySem.W.aG pC rE rF Aax) PySem.W.aM)⟩ (Zf (P:=λC=>Zh K C/\Yf K (.ref C) [.ref bh]=Ya false) mJ ⟨pK,(PySem.W.aK (PySem.W.aG pC rE rF Abb) PySem.W.aM)⟩ (Zf (P:=λC=>Zh K C/\Yf K (.ref C) [.ref bh]=Ya false) mK ⟨pM,(PySem.W.aK (PySem.W.aG pC rE rF Aba) PySem.W.aM)⟩ (Zf (P:=λC=>Zh K C/\Yf K (.ref C) [.ref bh]=Ya false) mL ⟨pN,(PySem.W.aK (PySem.W.aG pC rE rF AbW) PySem.W.aM)⟩ (Zf (P:=λC=>Zh K C/\Yf K (.ref C) [.ref bh]=Ya false) kY ⟨pO,(PySem.W.aK (PySem.W.aG pC rE rF AbV) PySem.W.aM)⟩ gk)))))))⟩,⟨(PySem.W.aK (PySem.W.aG iu iw rm Aab) PySem.W.aM),(Zf (P:=λC=>Zh K C/\Yf K (.ref C) [.ref aH]=Ya true) mH ⟨pI,(PySem.W.d9 (PySem.W.aG iu iw rm Ri))⟩ (Zf (P:=λC=>Zh K C/\Yf K (.ref C) [.ref aH]=Ya true) mF ⟨pG,(PySem.W.d9 (PySem.W.aG iu iw rm Rc))⟩ (Zf (P:=λC=>Zh K C/\Yf K (.ref C) [.ref aH]=Ya true) kW ⟨pJ,(PySem.W.d9 (PySem.W.aG iu iw rm Rh))⟩ (Zf (P:=λC=>Zh K C/\Yf K (.ref C) [.ref aH]=Ya true) mC ⟨pB,(PySem.W.d9 (PySem.W.aG iu iw rm Rb))⟩ (Zf (P:=λC=>Zh K C/\Yf K (.ref C) [.ref aH]=Ya true) mJ ⟨pK,(PySem.W.d9 (PySem.W.aG iu iw rm Rg))⟩ (Zf (P:=λC=>Zh K C/\Yf K (.ref C) [.ref aH]=Ya true) mK ⟨pM,(PySem.W.d9 (PySem.W.aG iu iw rm Rf))⟩ (Zf (P:=λC=>Zh K C/\Yf K (.ref C) [.ref aH]=Ya true) mL ⟨pN,(PySem.W.d9 (PySem.W.aG iu iw rm Rk))⟩ (Zf (P:=λC=>Zh K C/\Yf K (.ref C) [.ref aH]=Ya true) kY ⟨pO,(PySem.W.d9 (PySem.W.aG iu iw rm Rj))⟩ gk)))))))),gk⟩⟩
 have AdI:dG K mg "is_number" Ba ["word"]:=n6 X G a0.1 a0.2.1 a0.2.2.1 a0.2.2.2 (Binds.all (yJ λ_=>rfl));have AdJ:dG K mg "is_within" Be ["number","many"]:=n6 X G a1.1 a1.2.1 a1.2.2.1 a1.2.2.2 (Binds.all (J_ λ_ _=>rfl));have Aed:dG K mg "read_row" Bc ["line"]:=n6 X G a2.1 a2.2.1 a2.2.2.1 a2.2.2.2 (Binds.all (yJ λ_=>rfl));have AaV:dG K mg "refuse_no_roll" Bd ["rows"]:=n6 X G a3.1 a3.2.1 a3.2.2.1 a3.2.2.2 (Binds.all (yJ λ_=>rfl));have AdK:dG K mg "read_roll" Bb ["text"]:=n6 X G a4.1 a4.2.1 a4.2.2.1 a4.2.2.2 (Binds.all (yJ λ_=>rfl));have AbX:dG K mg "_law_cell_at" Bf ["script","k"]:=n6 X G a5.1 a5.2.1 a5.2.2.1 a5.2.2.2 (Binds.all (J_ λ_ _=>rfl));have Aee:dG K mg "_law_row" Bg ["cell","many"]:=n6 X G a6.1 a6.2.1 a6.2.2.1 a6.2.2.2 (Binds.all (J_ λ_ _=>rfl));have Aef:dG K mg "_law_far" Bh ["cell","many"]:=n6 X G a7.1 a7.2.1 a7.2.2.1 a7.2.2.2 (Binds.all (J_ λ_ _=>rfl));have AdL:dG K mg "_law_text" Bj ["rows"]:=n6 X G a8.1 a8.2.1 a8.2.2.1 a8.2.2.2 (Binds.all (yJ λ_=>rfl));have AdM:dG K mg "_law_good" Bk ["rows"]:=n6 X G a9.1 a9.2.1 a9.2.2.1 a9.2.2.2 (Binds.all (yJ λ_=>rfl));have AcB:dG K mg "_law_asked" Bl ["rows"]:=n6 X G a10.1 a10.2.1 a10.2.2.1 a10.2.2.2 (Binds.all (yJ λ_=>rfl));have AdN:dG K mg "_law_made" Bm []:=n6 X G a11.1 a11.2.1 a11.2.2.1 a11.2.2.2 (Binds.all λus hl=>match us,hl with|[],_=>rfl);refine⟨W.fnOf "law" "law" (nq um) (gM um) (Zq um) .none .none .none m12 Yi (.ref g12) .none,λs v=>.of_eq rfl,λbase _ _=>?_⟩;have Kd:=ZhJ (P:=l.prog) (w:=w) (base:=base) AdI T;have yK:=Zh4 (P:=l.prog) (w:=w) (base:=base) AdJ T;have Kl:=ZiD (P:=l.prog) (w:=w) (base:=base) Aed T Kd yK;have EY:=Zez (P:=l.prog) (w:=w) (base:=base) AaV T XO yK;have Ahb:=EY.fn;have Fd:=Zij (P:=l.prog) (w:=w) (base:=base) AdK T XO Kl EY;have Ahd:=Fd.fn;have E_:=Zfu (P:=l.prog) (w:=w) (base:=base) AbX T;have Km:=Zja (P:=l.prog) (w:=w) (base:=base) Aee T;have Fe:=ZiV (P:=l.prog) (w:=w) (base:=base) Aef T;have Ke:=Zie (P:=l.prog) (w:=w) (base:=base) AdL T;have Kf:=ZhY (P:=l.prog) (w:=w) (base:=base) AdM T;have wC:=ZgH (P:=l.prog) (w:=w) (base:=base) AcB T XO Fd Ke Kf;have Kg:=Zhl (P:=l.prog) (w:=w) (base:=base) AdN T XO;exact Zqr (YF (st:=um) a12.2.1 a12.2.2.1 a12.2.2.2) T E_ Km Fe wC Kg
noncomputable def kK:Params->uK:=λP=>(nat_lit 2,⟨.none,Yi,.dict #[] 0,#[]⟩)::
 (nat_lit 3,k3 P)::
 (nat_lit 23,⟨.type "dict",Yi,.dict #[kE P "__module__" 196 (.str "stepledger.errors" 187),kE P "__firstlineno__" 200 (.int 2 199),kE P "__static_attributes__" 201 (.ref 22),kE P "__weakref__" 203 (.ref 25),kE P "__doc__" 204 .none] 3,#[]⟩)::
 (nat_lit 24,⟨.type "type",Yi,.cls ⟨"LedgerError",[.type "ValueError"],[.ref 24,.type "ValueError",.type "Exception",.type "BaseException",.type "object"],23,"LedgerError",true,[],[.ref 37,.ref 49,.ref 61,.ref 73,.ref 85,.ref 97,.ref 116,.ref 135],false,Yi,false⟩,#[Ya (.ref 15),Yi,Ya (.str "LedgerError" 189),Ya (.str "LedgerError" 197),Ya (.builtin "ValueError.__new__"),Ya (.bool true)]⟩)::
 (nat_lit 36,⟨.type "dict",Yi,.dict #[kE P "__module__" 214 (.str "stepledger.errors" 187),kE P "__firstlineno__" 218 (.int 4 217),kE P "__static_attributes__" 219 (.ref 35),kE P "__doc__" 220 .none] 2,#[]⟩)::
 (nat_lit 37,⟨.type "type",Yi,.cls ⟨"NoRoll",[.ref 24],[.ref 37,.ref 24,.type "ValueError",.type "Exception",.type "BaseException",.type "object"],36,"NoRoll",true,[],[],false,Yi,false⟩,#[Ya (.ref 28),Yi,Ya (.str "NoRoll" 207),Ya (.str "NoRoll" 215),Ya (.builtin "ValueError.__new__"),Ya (.bool true)]⟩)::
 (nat_lit 48,⟨.type "dict",Yi,.dict #[kE P "__module__" 230 (.str "stepledger.errors" 187),kE P "__firstlineno__" 234 (.int 6 233),kE P "__static_attributes__" 235 (.ref 47),kE P "__doc__" 236 .none] 2,#[]⟩)::
 (nat_lit 49,⟨.type "type",Yi,.cls ⟨"BadCut",[.ref 24],[.ref 49,.ref 24,.type "ValueError",.type "Exception",.type "BaseException",.type "object"],48,"BadCut",true,[],[],false,Yi,false⟩,#[Ya (.ref 40),Yi,Ya (.str "BadCut" 223),Ya (.str "BadCut" 231),Ya (.builtin "ValueError.__new__"),Ya (.bool true)]⟩)::
 (nat_lit 60,⟨.type "dict",Yi,.dict #[kE P "__module__" 246 (.str "stepledger.errors" 187),kE P "__firstlineno__" 250 (.int 8 249),kE P "__static_attributes__" 251 (.ref 59),kE P "__doc__" 252 .none] 2,#[]⟩)::
 (nat_lit 61,⟨.type "type",Yi,.cls ⟨"NoTime",[.ref 24],[.ref 61,.ref 24,.type "ValueError",.type "Exception",.type "BaseException",.type "object"],60,"NoTime",true,[],[],false,Yi,false⟩,#[Ya (.ref 52),Yi,Ya (.str "NoTime" 239),Ya (.str "NoTime" 247),Ya (.builtin "ValueError.__new__"),Ya (.bool true)]⟩)::
 (nat_lit 72,⟨.type "dict",Yi,.dict #[kE P "__module__" 262 (.str "stepledger.errors" 187),kE P "__firstlineno__" 266 (.int 10 265),kE P "__static_attributes__" 267 (.ref 71),kE P "__doc__" 268 .none] 2,#[]⟩)::
 (nat_lit 73,⟨.type "type",Yi,.cls ⟨"NoDispute",[.ref 24],[.ref 73,.ref 24,.type "ValueError",.type "Exception",.type "BaseException",.type "object"],72,"NoDispute",true,[],[],false,Yi,false⟩,#[Ya (.ref 64),Yi,Ya (.str "NoDispute" 255),Ya (.str "NoDispute" 263),Ya (.builtin "ValueError.__new__"),Ya (.bool true)]⟩)::
 (nat_lit 84,⟨.type "dict",Yi,.dict #[kE P "__module__" 278 (.str "stepledger.errors" 187),kE P "__firstlineno__" 282 (.int 12 281),kE P "__static_attributes__" 283 (.ref 83),kE P "__doc__" 284 .none] 2,#[]⟩)::
 (nat_lit 85,⟨.type "type",Yi,.cls ⟨"BadGiven",[.ref 24],[.ref 85,.ref 24,.type "ValueError",.type "Exception",.type "BaseException",.type "object"],84,"BadGiven",true,[],[],false,Yi,false⟩,#[Ya (.ref 76),Yi,Ya (.str "BadGiven" 271),Ya (.str "BadGiven" 279),Ya (.builtin "ValueError.__new__"),Ya (.bool true)]⟩)::
 (nat_lit 96,⟨.type "dict",Yi,.dict #[kE P "__module__" 294 (.str "stepledger.errors" 187),kE P "__firstlineno__" 298 (.int 14 297),kE P "__static_attributes__" 299 (.ref 95),kE P "__doc__" 300 .none] 2,#[]⟩)::
 (nat_lit 97,⟨.type "type",Yi,.cls ⟨"Spent",[.ref 24],[.ref 97,.ref 24,.type "ValueError",.type "Exception",.type "BaseException",.type "object"],96,"Spent",true,[],[],false,Yi,false⟩,#[Ya (.ref 88),Yi,Ya (.str "Spent" 287),Ya (.str "Spent" 295),Ya (.builtin "ValueError.__new__"),Ya (.bool true)]⟩)::
 (nat_lit 112,kC "__init__" "BadRow.__init__" 107 315 18 2 320)::
 (nat_lit 113,kF yx "__init__" "BadRow.__init__" .none kM0 112)::
 (nat_lit 115,⟨.type "dict",Yi,.dict #[kE P "__module__" 310 (.str "stepledger.errors" 187),kE P "__firstlineno__" 314 (.int 16 313),kE P "__init__" 322 (.ref 113),kE P "__static_attributes__" 324 (.ref 114),kE P "__doc__" 325 .none] 2,#[]⟩)::
 (nat_lit 116,⟨.type "type",Yi,.cls ⟨"BadRow",[.ref 24],[.ref 116,.ref 24,.type "ValueError",.type "Exception",.type "BaseException",.type "object"],115,"BadRow",true,[],[],false,Yi,false⟩,#[Ya (.ref 100),Yi,Ya (.str "BadRow" 303),Ya (.str "BadRow" 311),Ya (.builtin "ValueError.__new__"),Ya (.bool true)]⟩)::
 (nat_lit 131,kC "__init__" "Unfit.__init__" 126 340 23 2 345)::
 (nat_lit 132,kF yC "__init__" "Unfit.__init__" .none kM0 131)::
 (nat_lit 134,⟨.type "dict",Yi,.dict #[kE P "__module__" 335 (.str "stepledger.errors" 187),kE P "__firstlineno__" 339 (.int 21 338),kE P "__init__" 347 (.ref 132),kE P "__static_attributes__" 349 (.ref 133),kE P "__doc__" 350 .none] 2,#[]⟩)::
 (nat_lit 135,⟨.type "type",Yi,.cls ⟨"Unfit",[.ref 24],[.ref 135,.ref 24,.type "ValueError",.type "Exception",.type "BaseException",.type "object"],134,"Unfit",true,[],[],false,Yi,false⟩,#[Ya (.ref 119),Yi,Ya (.str "Unfit" 328),Ya (.str "Unfit" 336),Ya (.builtin "ValueError.__new__"),Ya (.bool true)]⟩)::
 (nat_lit 138,⟨.type "dict",Yi,.dict #[kE P "put" 361 (.ref 139),kE P "add" 364 (.ref 140),kE P "sub" 368 (.ref 141),kE P "more" 372 (.ref 142),kE P "get" 376 (.ref 143),kE P "set" 379 (.ref 144),kE P "jump" 382 (.ref 145),kE P "when" 384 (.ref 146),kE P "tell" 387 (.ref 147),kE P "halt" 389 (.ref 148)] 10,#[]⟩)::
 (nat_lit 139,⟨.type "tuple",Yi,.seq #[.str "box" 362,.str "number" 363] 0,#[]⟩)::
 (nat_lit 140,⟨.type "tuple",Yi,.seq #[.str "box" 365,.str "box" 366,.str "box" 367] 0,#[]⟩)::
 (nat_lit 141,⟨.type "tuple",Yi,.seq #[.str "box" 369,.str "box" 370,.str "box" 371] 0,#[]⟩)::
 (nat_lit 142,⟨.type "tuple",Yi,.seq #[.str "box" 373,.str "box" 374,.str "box" 375] 0,#[]⟩)::
 (nat_lit 143,⟨.type "tuple",Yi,.seq #[.str "box" 377,.str "box" 378] 0,#[]⟩)::
 (nat_lit 144,⟨.type "tuple",Yi,.seq #[.str "box" 380,.str "box" 381] 0,#[]⟩)::
 (nat_lit 145,⟨.type "tuple",Yi,.seq #[.str "row" 383] 0,#[]⟩)::
 (nat_lit 146,⟨.type "tuple",Yi,.seq #[.str "box" 385,.str "row" 386] 0,#[]⟩)::
 (nat_lit 147,⟨.type "tuple",Yi,.seq #[.str "box" 388] 0,#[]⟩)::
 (nat_lit 148,⟨.type "tuple",Yi,.seq #[] 0,#[]⟩)::
 (nat_lit 152,kV Ba 149 401 31 1 404)::
 (nat_lit 153,kG Ba Ez 152)::
 (nat_lit 159,kU Bb 154 407 38 1 415)::
 (nat_lit 160,kG Bb Ez 159)::
 (nat_lit 166,kU Bc 161 418 47 1 428)::
 (nat_lit 167,kG Bc Ez 166)::
 (nat_lit 173,kU Bd 168 431 61 1 438)::
 (nat_lit 174,kG Bd Ez 173)::
 (nat_lit 180,kU Be 175 441 68 2 446)::
 (nat_lit 181,kG Be Ez 180)::
 (nat_lit 187,kU Bf 182 451 71 2 456)::
 (nat_lit 188,kG Bf wB 187)::
 (nat_lit 194,kU Bg 189 459 75 2 469)::
 (nat_lit 195,kG Bg wB 194)::
 (nat_lit 201,kU Bh 196 472 88 2 477)::
 (nat_lit 202,kG Bh wB 201)::
 (nat_lit 206,kV Bj 203 480 90 1 483)::
 (nat_lit 207,kG Bj wB 206)::
 (nat_lit 213,kU Bk 208 486 92 1 491)::
 (nat_lit 214,kG Bk wB 213)::
 (nat_lit 218,kV Bl 215 494 97 1 497)::
 (nat_lit 219,kG Bl wB 218)::
 (nat_lit 225,kU Bm 220 500 111 0 506)::
 (nat_lit 226,kG Bm wB 225)::
 (nat_lit 230,kV um 227 509 118 1 512)::
 (nat_lit 231,kG um wB 230)::[]
open PySem.W
noncomputable abbrev pP:Yz:=PySem.Challenge.pw_stepledger_k04_no_roll
noncomputable def pQ:Yz:=view pP [1,2,3,4,5,6,7,8,9,11,12,13,14,15,16,17,18,19,21,22,23,24,25,26,27,28]
noncomputable abbrev pL:List aj:=["FORMS"]
noncomputable abbrev pA:List Yl:=[nat_lit 2,nat_lit 3,nat_lit 23,nat_lit 24,nat_lit 36,nat_lit 37,nat_lit 48,nat_lit 49,nat_lit 60,nat_lit 61,nat_lit 72,nat_lit 73,nat_lit 84,nat_lit 85,nat_lit 96,nat_lit 97,nat_lit 112,nat_lit 113,nat_lit 115,nat_lit 116,nat_lit 131,nat_lit 132,nat_lit 134,nat_lit 135,nat_lit 138,nat_lit 139,nat_lit 140,nat_lit 141,nat_lit 142,nat_lit 143,nat_lit 144,nat_lit 145,nat_lit 146,nat_lit 147,nat_lit 148,nat_lit 152,nat_lit 153,nat_lit 159,nat_lit 160,nat_lit 166,nat_lit 167,nat_lit 173,nat_lit 174,nat_lit 180,nat_lit 181,nat_lit 187,nat_lit 188,nat_lit 194,nat_lit 195,nat_lit 201,nat_lit 202,nat_lit 206,nat_lit 207,nat_lit 213,nat_lit 214,nat_lit 218,nat_lit 219,nat_lit 225,nat_lit 226,nat_lit 230,nat_lit 231]
noncomputable def pX(s:Yg):Bool:=xlAt pQ [] s&&recOk (RowW.records PySem.Challenge.rw_stepledger_k04_no_roll.row.toRowW) s
set_option maxHeartbeats 0
theorem hd0(w:aD):hSt pP pQ pL pX pA kK 2588 ⟨118,0,142,94⟩ (hW w false):=λos=>by kernel_rfl
theorem hd1(w:aD):hSt pP pQ pL pX pA kK 2588 ⟨118,0,142,94⟩ (hW w true):=λos=>by kernel_rfl
set_option maxHeartbeats 400000
end Law
open PySem PySem.W PyProof.Rows
set_option maxRecDepth 100000 in
set_option maxHeartbeats 0 in
theorem PySem.Challenge.cw_stepledger_k04_no_roll_holds : PySem.Challenge.rw_stepledger_k04_no_roll.Holds := by
 w_on
 refine holds_law (by kernel_rfl) λsaid=>?_;refine holds_open (r:=PySem.Challenge.rw_stepledger_k04_no_roll.row) (q:=Law.pQ) (loose:=Law.pL) (Xt:=Law.pX) (XP:=XL Law.pQ []) (YP:=Hook.says (kHook Law.kK Law.pA (λ_=>by kernel_rfl))) (L3.ZqG (N:=5300) rfl (λ_=>rfl) rfl rfl Law.hd0 Law.hd1) (Hook.of (kHook Law.kK Law.pA (λ_=>by kernel_rfl))) (Hook.keeps _) (λs e=>xl_of s (Yaw.mp e).1) XL.keeps (by rfl) (by rfl) (by rfl) (λs e=>recFacts_of (Yaw.mp e).2) (by rfl) said (by kernel_rfl) ⟨rfl,rfl,rfl,rfl,rfl,by decide +kernel⟩ ?hw ?hc
 case hw=>w_witness2
 k_fill
 refine L3.ZsS (l:=PySem.Challenge.rw_stepledger_k04_no_roll) (k:=5) (F:=Law.ZkF) rfl rfl ⟨rfl,by decide,by decide,rfl⟩ (λw h Y=>W.kIn_of Y) ?G Law.law_holds
 case G=>
  intro w mg fa h KX G hmg;refine' Law.ZqH KX G hmg ?_ ?_ ?_ ?_ ?_ ?_ ?_ ?_ ?_ ?_ ?_ ?_ ?_ ?_ ?_ ?_ ?_ ?_ ?_ ?_ ?_ ?_ ?_ ?_ ?_ ?_ ?_ ?_ ?_ ?_ ?_ ?_ ?_ ?_ ?_ ?_ ?_ ?_ ?_ ?_ ?_ ?_ ?_ ?_ ?_ ?_ ?_ ?_ ?_ ?_ ?_ ?_ ?_ ?_ ?_ ?_ ?_ ?_ ?_ ?_ ?_ ?_ ?_ ?_ ?_ ?_ ?_ ?_ ?_ ?_ ?_ ?_ ?_ ?_ ?_ ?_ ?_ ?_ ?_ ?_ ?_ ?_ ?_ ?_ ?_ ?_ ?_ ?_ ?_ ?_ ?_ ?_ ?_ ?_ ?_ ?_ ?_ ?_ ?_ ?_ ?_ ?_ ?_ ?_ ?_ ?_ ?_ ?_ ?_ ?_ ?_ ?_ ?_ ?_ ?_ ?_ ?_ ?_ ?_ ?_ ?_ ?_ ?_ ?_ ?_ ?_ ?_ ?_ ?_ ?_ ?_ ?_ ?_ ?_ ?_ ?_ ?_ ?_ ?_ ?_ ?_ ?_ ?_ ?_ ?_ ?_ ?_ ?_ ?_ ?_ ?_ ?_ ?_ ?_ ?_ ?_ ?_ ?_ ?_ ?_ ?_ ?_ ?_ ?_ ?_ ?_ ?_ ?_ ?_ ?_ ?_ ?_ ?_ ?_ ?_ ?_ ?_ ?_ ?_ ?_ ?_ ?_ ?_ ?_ ?_ ?_ ?_ ?_ ?_ ?_ ?_ ?_ ?_ ?_ ?_ ?_ ?_ ?_ ?_ ?_ ?_ ?_ ?_ ?_ ?_ ?_ ?_ ?_ ?_ ?_ ?_ ?_ ?_ ?_ ?_ ?_ ?_ ?_ ?_ ?_ ?_ ?_ ?_ ?_ ?_ ?_ ?_ ?_ ?_ ?_ ?_ ?_ ?_ ?_ ?_ ?_ ?_ ?_ ?_ ?_ ?_ ?_ ?_ ?_ ?_ ?_ ?_ ?_ ?_ ?_ ?_ ?_ ?_ ?_ ?_ ?_ ?_ ?_ ?_
  all_goals try first|k_is|(refine⟨?_,?_,?_,?_⟩<;>k_is)
  all_goals first|rfl|decide +kernel
