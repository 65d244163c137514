import PyProof.Rows.All
import Wide.All
import OpenK.AllK
import Wide.FinOn
import Lean
import PyProof.EqAt
import PyProof.EqKinds
import PyProof.TupleCall
import PySem.Challenge.RW_stepledger_k03_bad_row
open Option renaming some->Ya,none->Ye,isSome_iff_exists->GQ,ne_none_iff_exists'->Us,map_eq_some_iff->Ut,isSome_some->Uu,getD_none->Uv,bind_some->Uw
open PySem.W renaming Frag->Yb,subIn->Y0,findIn->fM,kitAny->fZ,clsIn->jM,kia_one->nD,hideAll_get->tD,mg_none_of->kO,emptyDict->u0,mroIn->qb,typeIn->tE,fnOf->qY,nsIn->dO,instObj->wX,specialIn->yZ,keepIn->wY,of_hideAll->GX,mg_of->mJ,codeIn->CJ,hideAll->GZ,exmOne->G4,methodObj->Mv,cellsFrom_some->Ux,funFrames_hide->Uy,takesIn->Mw,readsIn->Mx,findCls->Mz,hideAll_none->Uz,lookIn->MF,kitOne->MJ,kitx_tuple->UG,callWith_K->UJ,kitx_none->UL,kitx_list->UT,kitx_dict->UV,plainGet->UW,Frag->u5,WalkO->U0,mg_of->U3
open PySem renaming wpAny_bind->Yc,Value->Yd,Shared->Yf,starEach->Yp,Addr->Yq,wpAny_pure->Yr,Program->Y3,mainGlobals->Y4,wpAny->Y8,sizeLine->bj,model->ao,Around->bB,bootBuiltins->gb,World->aO,wpAny_holding->jb,wpAny_mono->eO,wpAny_field->h_,wpAny_callSpecial?_slot->u6,backTo->bN,mem_of_lookup->tG,Heap->aq,compareOp->gK,keywordEach->jN,attributeBase->oW,strLen_append->oX,codeAny_call_builtin->wZ,sizeLine_eq->mK,wpAny_newObj_type->u9,FuncData->gM,binaryOp->ig,wpAny_call_entry->u_,eval->aF,wpAny_pyIter_list->w5,wpAny_loadPart'->G5,wpAny_setField_rec->y_,wpAny_seqItems->vd,excClassObj->qd,foldedSetIterable->za,wpAny_loadPart_at->zb,codeAny_mono->tH,wpAny_standAt->vf,backToKw->jO,treeTable->nF,assignEach->qe,wpAny_Call_Name_kw->CK,Stmt->Yd2,importedModules->zc,wpAny_truthy_bool->CN,wpAny_call->qZ,IsPair->gj,checkBuiltinCall->CP,letOwnedTupleGo->Yes,wpAny_passesOwn->CQ,wpAny_attempt->zf,sysModules->vg,sliceBounds->w6,call_meets->vh,slicePicked->xg,plainObj_wpAny_Assign_Attribute->U4,wpAny_setField->CV,wpAny_updateSeq_pair->MK,wpAny_onRaise->CZ,wpAny_execs_nil->G9,rawInt->jP,codeAny->oY,getItem->oZ,getAttrByItsOwn->G_,wpAny_FormattedValue_plain->U5,intText?->Hf,boundAndCalled->Hg,swapsWith->xj,wpAny_sequenceKey->MN,typeIs_str->zj,behindInMarks->Hh,cLine->iH,wpAny_point->C_,noFill_tuple_add->MP,wpAny_storeName_local->U6,holding->tK,wpAny_typeOf->Hi,wpAny_nextOf_list_end->U7,wpAny_formatField_int->U8,isInstance->Dc,unbindBehindTheSuite->U9,pyNext->qi,wpAny_loadPart->MT,subscripted->Hj,callerA->vm,IsZip->jQ,wpAny_isSubtype_exc->U_,wpAny_pyIter_tuple->Va,seq_tuple_add->M6,noteFrame->Dd,wpAny_keeperOf_exc->Vb,valueAt->xq,relabel->xr,wpAny_rule->Hl,wpAny_pyIter_enum->Vc,wpAny_Call_ofName->Vd,assign->tL,Result->tM,concat_meets->M7,seqIndex_neg->M8,wpAny_mkText->M_,wpAny_pyHash_str->Ve,wpAny_execs_cons->Vf,callGetattribute->Vg,wpAny_isInstance->Vh,wpAny_pyIter_zip->Vi,callWith->Df,tupleKind->Ho,standAt->zm,BindsTo->zp,seqIndex_of->Nb,strValues->Hq,codeAny_builtin->Vj,codeAny_of_tree->Vk,wpAny_letGo->Nf,wpAny_JoinedStr->Vl,builtinsNs->Ng,wpAny_Name->Nh,typeLookup->Ni,typeIs_int->Nj,call->Nk,compEnvC->Hr,pyIter->zq,PassesOwn->Nm,cellsFrom->Np,seqIndex?->Nq,atKey->tO,field->tQ,spliced->Hs,unaryOp->Ht,bindL->vo,bindC->vy,leaving->Hu,dictGet->Hv,nsFind->Dg,Str->aj,Tok->fj,Obj->aB,Env->cH,Sem->nG,Pos->aY
open List renaming length_map->Yg,length_append->Yi,replicate->Yj,length_singleton->Yk,size_toArray->Yl,getElem?_eq_some_iff->Yn,length_cons->Yo,mem_cons_self->Yu,mem_cons_of_mem->Yv,map_cons->Yy,mem_cons->Y1,getElem?_eq_getElem->Y2,getElem?_set_ne->Y5,getElem?_append_left->Y6,length_take->Y7,all_eq_true->fB,getElem?_map->gO,getElem?_set_self->jR,prefix_append->iI,mem_append->gk,getElem?_cons_zero->nH,lookup_cons->jc,append_nil->iJ,append_assoc->jC,getElem?_cons_succ->qj,mem_append_right->o4,length_nil->ju,mem_singleton->nJ,mem_of_getElem?->q8,length_drop->nO,getElem?_append_right->xu,getElem_mem->o5,map_append->nP,cons_append->o6,drop_eq_getElem_cons->xF,mem_map->jD,getElem?_take_of_lt->xG,replicate_succ->tR,eq_nil_of_length_eq_zero->Dh,all_cons->o7,mem_append_left->xH,any_cons->qm,nil_append->tU,range->kW,not_mem_nil->vz,prefix_refl->vA,getElem?_of_mem->zr,mem_of_mem_take->zu,map_nil->qp,flatten_cons->xJ,length_set->vB,take_succ_cons->zx,getElem?_replicate->Hw,take_of_length_le->Hx,length->tV,find?_cons->zy,ext_getElem?->Di,mem_of_mem_drop->Hy,drop_length->Dj,prefix_iff_getElem?->Nr,mem_filterMap->Hz,of_mem_zip->Dk,eraseIdxIfInBounds_toArray->Vm,singleton_append->Nt,filterMap_cons->Nu,nodup_cons->HB,map_eq_nil_iff->Nv,length_pos_iff->Nx,set_set->Dl,map_map->Dm,mem_range->HD,getElem?_zip_eq_some->Vn,prefix_iff_eq_take->Vo,getElem?_set_self'->Vp,range_succ_eq_map->Vq,drop_eq_nil_of_le->Vr,length_replicate->Vs,foldl_cons->Ny,all_map->HF,forIn_cons->Nz,dropLast_eq_take->Vt,isPrefixOf->NK,take_append_drop->Vu,getElem?_eq_none->Vv,map_congr_left->Vw,drop_succ_cons->Vx,set_cons_succ->Vy,set_cons_zero->Vz,getElem_range->VB,contains_cons->VD,map_take->NP,take_sublist->VF,reverse_cons->VG,foldl->HJ,Nodup->HN,length_range->VH,take_add_one->VJ,getElem_inj->VL,zipIdx_cons->VN,any_eq_true->VP,take_length->VR,mem_filter->V0,zipIdx_nil->V1,drop_zero->V2,forIn_nil->V3,map_drop->V4
open PySem.Heap renaming get?_push_of_some->Yh,get?_push_size->Yw,lt_size->Yx,get?_update_other->xK,get?_update_self->zA,size_push->vC,get?_none_of_le->Dn,SameBut->zB,get?_push_at->NQ,get?_push_cases->V5,get?_update_ne->V6
open Nat renaming le_trans->Ym,le_refl->Yt,lt_of_lt_of_le->Yz,le_antisymm->Y9,le_of_ble_eq_true->kY,ne_of_lt->eQ,le_of_not_lt->jT,sub_add_cancel->nQ,le_of_eq->kZ,le_add_right->q9,zero_le->jU,eq_of_beq_eq_true->zE,zero_add->q_,lt_irrefl->tW,beq->gP,add_le_add_right->Dp,ble->ir,lt_trans->tX,min_le_right->Dq,lt_of_le_of_lt->HS,lt_of_not_le->HW,min_eq_right->HX,succ_le_succ->HY,min_eq_left->H_,ne_of_gt->Dr,mul_le_mul->Ia,toDigits_of_lt_base->V7,add_comm->Ib,sub_eq_zero_of_le->V8,toDigits->Ie,strongRecOn->NT,sub_le->Ds,add_le_add->NZ,mul_div_le->N5,mul_le_mul_left->V9,le_of_lt->N6,le_succ->N7,zero_lt_one->V_,le_add_left->Wa,toList_repr->Wb
open Classical renaming propDecidable->Ys
open Option.some renaming inj->eE
open Bool renaming and_eq_true->gQ,and_eq_true_iff->Yaj,false_ne_true->o8,or_eq_true->vD,and_self->vG,beq_eq_decide_eq->Ig,eq_iff_iff->Dt,false_eq_true->Ih,and_false->Du,false_and->N8,true_and->N_,eq_false_iff->Wc,or_false->Wd,false_or->Wf,not_true->Wg
open PySem.Builtin.SmallTypes renaming nextOf->rm,ownedTupleIsFree->Ii,ownedTupleHandOut->Wh
open False renaming elim->dH
open Ne renaming symm->cQ
open PySem.Str renaming ofString->jV,length->jW,empty->rn
open Int renaming toNat_of_nonneg->tY,natCast_nonneg->vH,natAbs_natCast->xM,natCast_add->zF,toNat_natCast->Dv,self_le_toNat->Dw,emod_lt_of_pos->Ij,ofNat_le->zG,add_zero->zH,emod_nonneg->Ik,le_of_eq->Dy,zero_add->Dz,not_le->zJ,lt_mul_ediv_self_add->Wi,le_of_lt->Il,mul_zero->Im,natCast_mul->Oa,ofNat_lt->Io,lt_of_lt_of_le->Wj,sub_zero->Ob,min_eq_left->Wk,mul_add->Oc,add_le_add->Wl,not_lt->Od
open PySem.Builtin.Str renaming occurrences->zK,strSliceIndices->Ip,tooLong->Oe,partsBetween->Wm,strKind->Wn
open PyProof.Rows renaming slot_tuple_getitem->Ir,callWith_type1->Og,slot_tupleiter_next->Iu,callWith_builtin1->Wo,signs_ofString->Wq,envOfC->k_,kindOf->mL,AllBare->rA,subscriptTail_builtinR->Wr,entry_tupleiter_next->Ws,entry_tuple_getitem->Wt,args_tupleiter_next->Wu,args_tuple_getitem->Wv,subscriptTail->Oh,Subscript_->Oi
open List.cons renaming inj->qt,injEq->Ww
open PySem.NumText renaming digitsVal->DG
open Array renaming getElem?_eq_some_iff->Iv,getElem?_setIfInBounds_ne->Wx,toList->zM,getElem?_toList->Oj,length_toList->Ol,toList_inj->Om,mem_toList_iff->Wy,append_assoc->Wz
open PySem.F renaming excBase_ValueError->Iw,plainAttrs_str->Iz,args_tuple_add_2->Oo,entry_tuple_add->Oq,slot_tuple_add->Ot,slot_zip_next->IK,args_str_split_2->Ou,slot_dict_getitem->WD,entry_str_split->Ov,plainAttrs_list->WK,slot_str_split->Ow,slot_dict_get->WL,slot_enumerate_next->WM,args_zip_next_1->WN,entry_list_pop->WP,entry_zip_next->WQ,slot_list_pop->WR,slot_int_rmul->WT,entry_bexc_ga->WW,args_bexc_ga->WX
open PySem.Builtin.Slice renaming slicePlaces->IV,sliceAdjust->Ox,sliceApplied->WY
open PySem.Calls renaming evalArgs_plain->DK,callWith_builtin->Oz,Name_function_global->W0,spliced_cons->W2,spliced_nil->W3
open PySem.Builtin.Tuple renaming tupleExact->IW,tupleItemsOf->W4
open PyProof.Rows.KTD renaming datumAt->rC,TabOf->zN
open PySem.Obj renaming data_mapFields->DN,mapFields->xN,isFreed_of_fields->OD,mapSeq->DP,cls_mapFields->W5
open Decidable renaming byContradiction->OJ
open PySem.Builtin.List renaming listTooLong->O1
open PySem.Code renaming quiet_builtin->I_,isFrame->O2
open PySem.SeqAt renaming EqAt->vI
open ToString renaming toString->rD
open PySem.SeqAt.EqAt renaming int_str->O4,str_int->O5,same->O6,none_bool->W6,bool_none->W7,bool_bool->W8,none_int->W9,none_str->W_,bool_int->Xa,bool_str->Xb,int_none->Xc,int_bool->Xd,str_none->Xe,str_bool->Xf,int_int->Xg,str_str->Xh
open PySem.PassesOwn renaming leaving->O7,never->Xi
open OfNat renaming ofNat->DQ
open Eq renaming trans->vJ
open PySem.Around renaming under->Ja
open PySem.Unicode renaming upperOf->O8
open PySem.Heap.SameBut renaming update->Xj
open PySem.EntryCells renaming newEntry->Xk
open PySem.Heap.Ns1 renaming of_empty->Xl
open PySem.SeqAt.RcAt renaming tuples->Xm
open PySem.StrLaws renaming found_one->Xn
open Nat.succ renaming inj->O9
open PySem.Txt renaming split->Xo,startswith->Xp
open PySem.Shared renaming heap->O_
open Char renaming toNat->Pa
open PySem.Value renaming isStrOf->Xq
open PySem.Paired renaming length->Xr
open Min renaming min->dm
namespace L3
set_option compiler.extract_closed false
set_option genSizeOf false in
set_option genInjectivity false in
inductive AE where
 |v (i:Nat)
 |k (n:Nat)
 |a (x y:AE)
 |m (n:Nat) (x:AE)
noncomputable def Jb:List Nat->Nat->Nat
 |[],_=>0|x::_,0=>x|_::l,n+1=>Jb l n
noncomputable def AE.ev(c:List Nat):AE->Nat
 | .v i=>Jb c i|.k n=>n|.a x y=>x.ev c+y.ev c|.m n x=>n*x.ev c
noncomputable def aL:List Nat->List Nat->List Nat
 |[],r=>r|x::l,[]=>x::l|x::l,y::r=>(x+y)::aL l r
noncomputable def sL(n:Nat):List Nat->List Nat
 |[]=>[]|x::l=>(n*x)::sL n l
noncomputable def uL:Nat->List Nat
 |0=>[1]|n+1=>0::uL n
noncomputable def AE.li:AE->List Nat
 | .v i=>0::uL i|.k n=>[n]|.a x y=>aL x.li y.li|.m n x=>sL n x.li
noncomputable def dt:List Nat->List Nat->Nat
 |x::c,y::l=>x*y+dt c l|[],_=>0|_,[]=>0
noncomputable def xO:List Nat->List Nat->Bool
 |[],_=>true|x::l,[]=>ir x 0&&xO l []|x::l,y::r=>ir x y&&xO l r
theorem o9:∀c,dt c []=0
 |[]=>rfl|_::_=>rfl
theorem rE:∀c l r,dt c (aL l r)=dt c l+dt c r
 |c,[],r=>by rw[o9,q_];rfl|c,x::l,[]=>by rw[o9];rfl|[],x::l,y::r=>rfl|z::c,x::l,y::r=>by show z*(x+y)+dt c (aL l r)=_;rw[rE c l r,Nat.mul_add];exact Nat.add_add_add_comm _ _ _ _
theorem DR(n:Nat):∀c l,dt c (sL n l)=n*dt c l
 |c,[]=>by rw[o9];exact o9 c|[],x::l=>rfl|z::c,x::l=>by show z*(n*x)+dt c (sL n l)=n*(z*x+dt c l);rw[DR n c l,Nat.mul_add,Nat.mul_left_comm]
theorem Xu:∀c i,dt c (uL i)=Jb c i
 |[],0=>rfl|[],_+1=>rfl|x::c,0=>by show x*1+dt c []=x;rw[o9,Nat.mul_one];rfl|x::c,n+1=>by show x*0+dt c (uL n)=Jb c n;rw[Xu c n,Nat.mul_zero,q_]
theorem zO:∀c l r,xO l r=true->dt c l<=dt c r
 |c,[],r,_=>by rw[o9];exact jU _|[],x::l,r,_=>jU _|z::c,x::l,[],h=>by have h:=(gQ _ _).mp h;have e:x=0:=Nat.le_zero.1 (kY h.1);have i:=zO c l [] h.2;rw[o9]at i;show z*x+dt c l<=0;rw[e,Nat.le_zero.1 i];exact Yt 0|z::c,x::l,y::r,h=>
  have h:=(gQ _ _).mp h
  NZ (V9 z (kY h.1)) (zO c l r h.2)
theorem AE.dG(c:List Nat):∀e:AE,dt (1::c) e.li=e.ev c
 | .v i=>(q_ _).trans (Xu c i)|.k n=>by show 1*n+dt c []=n;rw[o9,Nat.one_mul];rfl|.a x y=>(rE _ _ _).trans (congr (congrArg _ (x.dG c)) (y.dG c))|.m n x=>(DR n _ _).trans (congrArg _ (x.dG c))
noncomputable def bY:Nat->Nat->AE×Nat
 |0,s=>(.k 0,s)|f+1,s=>bif ir (s % 16) 9 then(.v (s % 16),s / 16)else bif gP (s % 16) 10 then(.k 1,s / 16)
  else bif gP (s % 16) 11 then(.k (s / 256 % 16^(s / 16 % 16)),s / 256 / 16^(s / 16 % 16))
  else bif gP (s % 16) 12 then(.a (bY f (s / 16)).1 (bY f (bY f (s / 16)).2).1,(bY f (bY f (s / 16)).2).2)
  else bif gP (s % 16) 13 then(.m (s / 16 % 256) (bY f (s / 4096)).1,(bY f (s / 4096)).2)
  else(.k 0,s / 16)
noncomputable def DW:Nat->Nat->Nat->Prop
 |0,x,y=>x<=y|1,x,y=>x<y|2,x,y=>x=y|3,x,y=>x=y
 |4,x,y=>¬x<=y|5,x,y=>¬x<y|_,_,_=>False
noncomputable def Pb:Nat->AE->AE->List Nat
 |0,x,_=>x.li|1,x,_=>aL [1] x.li|2,x,_=>x.li|4,_,y=>aL [1] y.li
 |_,_,y=>y.li
noncomputable def DX:Nat->AE->AE->List Nat
 |0,_,y=>y.li|1,_,y=>y.li|2,_,y=>y.li|_,x,_=>x.li
noncomputable def tZ(c:List Nat):Nat->Nat->Prop
 |0,s=>DW (s % 16) ((bY 9 (s / 16)).1.ev c) ((bY 9 (bY 9 (s / 16)).2).1.ev c)|n+1,s=>DW (s / 16 % 16) ((bY 9 (s / 256)).1.ev c) ((bY 9 (bY 9 (s / 256)).2).1.ev c)->tZ c n (bY 9 (bY 9 (s / 256)).2).2
noncomputable def gN:Nat->AE->AE->List Nat->List Nat->Bool
 |0,x,y,L,R=>xO (aL R x.li) (aL L y.li)|1,x,y,L,R=>xO (aL [1] (aL R x.li)) (aL L y.li)|_,_,_,L,R=>xO (aL [1] R) L
noncomputable def t6:Nat->Nat->List Nat->List Nat->Bool
 |0,s,L,R=>gN (s % 16) (bY 9 (s / 16)).1 (bY 9 (bY 9 (s / 16)).2).1 L R|n+1,s,L,R=>t6 n (bY 9 (bY 9 (s / 256)).2).2 (aL L (sL (s % 16) (Pb (s / 16 % 16) (bY 9 (s / 256)).1 (bY 9 (bY 9 (s / 256)).2).1))) (aL R (sL (s % 16) (DX (s / 16 % 16) (bY 9 (s / 256)).1 (bY 9 (bY 9 (s / 256)).2).1)))
theorem DY(c l:List Nat):dt (1::c) (aL [1] l)=dt (1::c) l+1:=by rw[rE];show 1*1+dt c []+_=_;rw[o9];exact Ib _ _
theorem Xv(c:List Nat)(x y:AE):∀r,DW r (x.ev c) (y.ev c)->dt (1::c) (Pb r x y)<=dt (1::c) (DX r x y)
 |0,h=>by show dt _ x.li<=dt _ y.li;rw[x.dG,y.dG];exact h|1,h=>by show dt _ (aL [1] x.li)<=dt _ y.li;rw[DY,x.dG,y.dG];exact h|2,h=>by show dt _ x.li<=dt _ y.li;rw[x.dG,y.dG];exact kZ h|3,h=>by show dt _ y.li<=dt _ x.li;rw[x.dG,y.dG];exact kZ h.symm
 |4,h=>by show dt _ (aL [1] y.li)<=dt _ x.li;rw[DY,x.dG,y.dG];exact HW h|5,h=>by show dt _ y.li<=dt _ x.li;rw[x.dG,y.dG];exact jT h|_+6,h=>h.elim
theorem ZuR(c:List Nat)(x y:AE)(L R:List Nat)(h:dt (1::c) L<=dt (1::c) R):∀r,gN r x y L R=true->DW r (x.ev c) (y.ev c)
 |0,k=>by have e:=zO (1::c) _ _ k;rw[rE,rE,x.dG,y.dG]at e;exact Nat.le_of_add_le_add_left (Ym e (Dp h _))|1,k=>by have e:=zO (1::c) _ _ k;rw[DY,rE,rE,x.dG,y.dG]at e;exact Nat.lt_of_add_lt_add_left (Ym e (Dp h _))|r+2,k=>by have e:=zO (1::c) _ _ k;rw[DY]at e;exact absurd (Ym e h) (Nat.not_succ_le_self _)
variable{a b c:Nat}
theorem Xw(c:List Nat):∀(n s:Nat) (L R:List Nat),dt (1::c) L<=dt (1::c) R->t6 n s L R=true->tZ c n s
 |0,s,L,R,h,k=>ZuR c _ _ L R h _ k|n+1,s,L,R,h,k=>λg=>Xw c n _ _ _ (by rw[rE,rE,DR,DR];exact NZ h (V9 _ (Xv c _ _ _ g))) k
end L3
theorem lN(c:List Nat)(n s:Nat)(h:L3.t6 n s [] []=true):L3.tZ c n s:=L3.Xw c n s [] [] (Yt _) h
theorem o_(a b:Nat):a<=a-b+b:=Nat.le_add_of_sub_le (Yt _)
theorem T1:true=true:=rfl
theorem lA(n s:Nat)(y:L3.t6 n s [] []=true):L3.tZ [a] n s:=lN _ n s y
theorem lB(n s:Nat)(y:L3.t6 n s [] []=true):L3.tZ [a,b] n s:=lN _ n s y
theorem lC(n s:Nat)(y:L3.t6 n s [] []=true):L3.tZ [a,b,c] n s:=lN _ n s y
theorem lD{d:Nat}(n s:Nat)(y:L3.t6 n s [] []=true):L3.tZ [a,b,c,d] n s:=lN _ n s y
theorem lE{d e:Nat}(n s:Nat)(y:L3.t6 n s [] []=true):L3.tZ [a,b,c,d,e] n s:=lN _ n s y
theorem lI{d e f g h i:Nat}(n s:Nat)(y:L3.t6 n s [] []=true):L3.tZ [a,b,c,d,e,f,g,h,i] n s:=lN _ n s y
theorem Xx(w:Int):max w 0=(w.toNat:Int):=(Int.ofNat_toNat w).symm
theorem Xy(v:Int)(n:Nat)(h:¬v<0):dm v (n:Int)=((dm v.toNat n:Nat):Int):=by
 obtain⟨k,rfl⟩:=Int.eq_ofNat_of_zero_le (Od.1 h);rcases Nat.le_total k n with z|z
 .rw[Wk (zG.2 z)];exact congrArg Int.ofNat (H_ z).symm
 .rw[Int.min_eq_right (zG.2 z)];exact congrArg Int.ofNat (HX z).symm
theorem Pg(v:Int)(n:Nat)(h:v<0):max 0 (dm (v+(n:Int)) (n:Int))=((v+(n:Int)).toNat:Int):=by rw[Wk (Il (Wj (Int.add_lt_add_right h _) (Dy (Dz _)))),Int.max_comm];exact Xx _
theorem Ph(v:Int)(n:Nat)(h:¬v<0):max 0 (dm v (n:Int))=((dm v.toNat n:Nat):Int):=by rw[Xy v n h];exact Int.max_eq_right (vH _)
namespace L3
set_option genSizeOf false in
set_option genInjectivity false in
inductive AI where
 |v (i:Nat)
 |k (n:Nat)
 |c (e:AE)
 |a (x y:AI)
 |s (x y:AI)
 |g (x:AI)
 |m (n:Nat) (x:AI)
noncomputable def D_:List Int->Nat->Int
 |[],_=>0|x::_,0=>x|_::l,n+1=>D_ l n
noncomputable def AI.ev(c:List Nat)(d:List Int):AI->Int
 | .v i=>D_ d i|.k n=>Int.ofNat n|.c e=>((e.ev c:Nat):Int)|.a x y=>x.ev c d+y.ev c d
 | .s x y=>x.ev c d-y.ev c d|.g x=>-x.ev c d|.m n x=>Int.ofNat n*x.ev c d
noncomputable def pL(u w:List Nat×List Nat):List Nat×List Nat:=(aL u.1 w.1,aL u.2 w.2)
noncomputable def AI.li:AI->Bool->List Nat×List Nat
 | .v i,b=>bif b then([],uL i)else([],[])|.k n,b=>bif b then([n],[])else([],[])|.c e,b=>bif b then(e.li,[])else([],[])|.a x y,b=>pL (x.li b) (y.li b)
 | .s x y,b=>pL (x.li b) (y.li (!b))|.g x,b=>x.li (!b)|.m n x,b=>(sL n (x.li b).1,sL n (x.li b).2)
noncomputable def dw:List Int->List Nat->Int
 |x::c,y::l=>x*(y:Int)+dw c l|[],_=>0|_,[]=>0
noncomputable def dI(c:List Nat)(d:List Int)(u:List Nat×List Nat):Int:=((dt (1::c) u.1:Nat):Int)+dw d u.2
theorem Xz(p q r s:Int):p+q+(r+s)=p+r+(q+s):=by omega
theorem ph:∀c,dw c []=0
 |[]=>rfl|_::_=>rfl
theorem XC:∀c l r,dw c (aL l r)=dw c l+dw c r
 |c,[],r=>by rw[ph,Dz];rfl|c,x::l,[]=>by rw[ph,zH];rfl|[],x::l,y::r=>rfl|z::c,x::l,y::r=>by show z*((x+y:Nat):Int)+dw c (aL l r)=(z*x+dw c l)+(z*y+dw c r);rw[XC c l r,zF,Oc];exact Xz _ _ _ _
theorem XD(n:Nat):∀c l,dw c (sL n l)=Int.ofNat n*dw c l
 |c,[]=>by rw[ph,Im];exact ph c|[],x::l=>(Im _).symm|z::c,x::l=>by show z*((n*x:Nat):Int)+dw c (sL n l)=Int.ofNat n*(z*x+dw c l);rw[XD n c l,Oc,Oa,Int.mul_left_comm];rfl
theorem XF:∀c i,dw c (uL i)=D_ c i
 |[],0=>rfl|[],_+1=>rfl|x::c,0=>by show x*1+dw c []=x;rw[ph,Int.mul_one,zH]|x::c,n+1=>by show x*0+dw c (uL n)=D_ c n;rw[XF c n,Im,Dz]
section
variable (c:List Nat) (d:List Int)
theorem jX(u w:List Nat×List Nat):dI c d (pL u w)=dI c d u+dI c d w:=by show((dt (1::c) (aL u.1 w.1):Nat):Int)+dw d (aL u.2 w.2)=_;rw[rE,XC,zF];exact Xz _ _ _ _
theorem Jc(n:Nat)(u:List Nat×List Nat):dI c d (sL n u.1,sL n u.2)=Int.ofNat n*dI c d u:=by show((dt (1::c) (sL n u.1):Nat):Int)+dw d (sL n u.2)=_;rw[DR,XD,Oa];exact(Oc _ _ _).symm
theorem Pj:dI c d ([],[])=0:=by show((dt (1::c) []:Nat):Int)+dw d []=0;rw[o9,ph];rfl
theorem Zrk(p q r s:Int):p-q+(r-s)=p+r-(q+s):=by omega
theorem XH(p q r s:Int):p-q-(r-s)=p+s-(q+r):=by omega
theorem AI.dG:∀e:AI,e.ev c d=dI c d (e.li true)-dI c d (e.li false)
 | .v i=>by show D_ d i=dI c d ([],uL i)-dI c d ([],[]);rw[Pj,Ob];show _=((dt (1::c) []:Nat):Int)+dw d (uL i);rw[o9,XF];exact(Dz _).symm|.k n=>by show Int.ofNat n=dI c d ([n],[])-dI c d ([],[]);rw[Pj,Ob];show _=((dt (1::c) [n]:Nat):Int)+dw d [];rw[ph,zH];show _=((1*n+dt c []:Nat):Int);rw[o9,Nat.one_mul];rfl|.c e=>by show((e.ev c:Nat):Int)=dI c d (e.li,[])-dI c d ([],[]);rw[Pj,Ob];show _=((dt (1::c) e.li:Nat):Int)+dw d [];rw[ph,zH,e.dG]|.a x y=>by show x.ev c d+y.ev c d=dI c d (pL (x.li true) (y.li true))-dI c d (pL (x.li false) (y.li false));rw[jX,jX,x.dG,y.dG];exact Zrk _ _ _ _
 | .s x y=>by show x.ev c d-y.ev c d=dI c d (pL (x.li true) (y.li false))-dI c d (pL (x.li false) (y.li true));rw[jX,jX,x.dG,y.dG];exact XH _ _ _ _|.g x=>by show -x.ev c d=dI c d (x.li false)-dI c d (x.li true);rw[x.dG];exact Int.neg_sub _ _|.m n x=>by show Int.ofNat n*x.ev c d=dI c d (sL n (x.li true).1,sL n (x.li true).2)-dI c d (sL n (x.li false).1,sL n (x.li false).2);rw[Jc,Jc,x.dG];exact Int.mul_sub _ _ _
noncomputable def cI(x y:AI):List Nat×List Nat:=pL (x.li true) (y.li false)
noncomputable def xP(u:List Nat×List Nat):List Nat×List Nat:=(aL [1] u.1,u.2)
theorem Jd(u:List Nat×List Nat):dI c d (xP u)=dI c d u+1:=by show((dt (1::c) (aL [1] u.1):Nat):Int)+dw d u.2=((dt (1::c) u.1:Nat):Int)+dw d u.2+1;rw[DY,zF,Int.add_right_comm];rfl
theorem Je(x y:AI):dI c d (cI x y)-dI c d (cI y x)=x.ev c d-y.ev c d:=by unfold cI;rw[jX,jX,x.dG,y.dG,XH,Int.add_comm (dI c d (y.li true))]
theorem Jf{x y:AI}(h:x.ev c d<=y.ev c d):dI c d (cI x y)<=dI c d (cI y x):=by have:=Je c d x y;omega
theorem Zu9{x y:AI}(h:dI c d (cI x y)<=dI c d (cI y x)):x.ev c d<=y.ev c d:=by have:=Je c d x y;omega
noncomputable def XJ:Nat->Int->Int->Prop
 |0,x,y=>x<=y|1,x,y=>x<y|2,x,y=>x=y|3,x,y=>x=y
 |4,x,y=>¬x<=y|5,x,y=>¬x<y|_,_,_=>False
noncomputable def XM:Nat->AI->AI->List Nat×List Nat
 |0,x,y=>cI x y|1,x,y=>xP (cI x y)|2,x,y=>cI x y|4,x,y=>xP (cI y x)
 |_,x,y=>cI y x
noncomputable def XQ:Nat->AI->AI->List Nat×List Nat
 |0,x,y=>cI y x|1,x,y=>cI y x|2,x,y=>cI y x|_,x,y=>cI x y
theorem XR{x y:AI}(h:x.ev c d<y.ev c d):dI c d (xP (cI x y))<=dI c d (cI y x):=by have:=Je c d x y;rw[Jd];omega
theorem Zrr(x y:AI):∀r,XJ r (x.ev c d) (y.ev c d)->dI c d (XM r x y)<=dI c d (XQ r x y)
 |0,h=>Jf c d h|1,h=>XR c d h|2,h=>Jf c d (Dy h)|3,h=>Jf c d (Dy h.symm)
 |4,h=>XR c d (zJ.1 h)|5,h=>Jf c d (Od.1 h)|_+6,h=>h.elim
end
noncomputable def b8:Nat->Nat->AI×Nat
 |0,s=>(.k 0,s)|f+1,s=>bif ir (s % 16) 7 then(.v (s % 16),s / 16)else bif gP (s % 16) 8 then(.c (bY 9 (s / 16)).1,(bY 9 (s / 16)).2)
  else bif gP (s % 16) 9 then(.g (b8 f (s / 16)).1,(b8 f (s / 16)).2)else bif gP (s % 16) 10 then(.k 1,s / 16)
  else bif gP (s % 16) 11 then(.k (s / 256 % 16^(s / 16 % 16)),s / 256 / 16^(s / 16 % 16))
  else bif gP (s % 16) 12 then(.a (b8 f (s / 16)).1 (b8 f (b8 f (s / 16)).2).1,(b8 f (b8 f (s / 16)).2).2)
  else bif gP (s % 16) 13 then(.m (s / 16 % 256) (b8 f (s / 4096)).1,(b8 f (s / 4096)).2)
  else bif gP (s % 16) 14 then(.k 0,s / 16)else(.s (b8 f (s / 16)).1 (b8 f (b8 f (s / 16)).2).1,(b8 f (b8 f (s / 16)).2).2)
def hP(c:List Nat)(d:List Int)(r s:Nat):Prop:=bif ir 8 r then XJ (r-8) ((b8 9 s).1.ev c d) ((b8 9 (b8 9 s).2).1.ev c d)else DW r ((bY 9 s).1.ev c) ((bY 9 (bY 9 s).2).1.ev c)
noncomputable def hR(r s:Nat):Nat:=bif ir 8 r then(b8 9 (b8 9 s).2).2 else(bY 9 (bY 9 s).2).2
noncomputable def hL(r s:Nat):List Nat×List Nat:=bif ir 8 r then XM (r-8) (b8 9 s).1 (b8 9 (b8 9 s).2).1 else(Pb r (bY 9 s).1 (bY 9 (bY 9 s).2).1,[])
noncomputable def hH(r s:Nat):List Nat×List Nat:=bif ir 8 r then XQ (r-8) (b8 9 s).1 (b8 9 (b8 9 s).2).1 else(DX r (bY 9 s).1 (bY 9 (bY 9 s).2).1,[])
theorem Zul(c:List Nat)(d:List Int)(r s:Nat)(h:hP c d r s):dI c d (hL r s)<=dI c d (hH r s):=by
 unfold hP at h;unfold hL hH;cases e:ir 8 r<;>rw[e]at h
 .exact Int.add_le_add_right (zG.2 (Xv c _ _ _ h)) _
 .exact Zrr c d _ _ _ h
noncomputable def zL:List Nat->Bool
 |[]=>true|x::l=>gP x 0&&zL l
noncomputable def Pk:List Nat->List Nat->Bool
 |[],r=>zL r|x::l,[]=>gP x 0&&zL l|x::l,y::r=>gP x y&&Pk l r
theorem Pn:∀c l,zL l=true->dw c l=0
 |c,[],_=>ph c|[],x::l,_=>rfl|z::c,x::l,h=>by have h:=(gQ _ _).mp h;show z*(x:Int)+dw c l=0;rw[zE h.1,Pn c l h.2,zH];exact Im z
theorem XS:∀c l r,Pk l r=true->dw c l=dw c r
 |c,[],r,h=>(ph c).trans (Pn c r h).symm|c,x::l,[],h=>(Pn c (x::l) h).trans (ph c).symm|[],x::l,y::r,_=>rfl|z::c,x::l,y::r,h=>by have h:=(gQ _ _).mp h;show z*(x:Int)+dw c l=z*(y:Int)+dw c r;rw[zE h.1,XS c l r h.2]
noncomputable def zP(u w:List Nat×List Nat):Bool:=xO u.1 w.1&&Pk u.2 w.2
theorem Ea(c:List Nat)(d:List Int){u w:List Nat×List Nat}(h:zP u w=true):dI c d u<=dI c d w:=by have h:=(gQ _ _).mp h;exact Wl (zG.2 (zO _ _ _ h.1)) (Dy (XS d _ _ h.2))
noncomputable def Pq(c:List Nat)(d:List Int):Nat->Nat->Prop
 |0,s=>hP c d (s % 16) (s / 16)|n+1,s=>hP c d (s / 16 % 16) (s / 256)->Pq c d n (hR (s / 16 % 16) (s / 256))
noncomputable def gI(r s:Nat)(L R:List Nat×List Nat):Bool:=bif gP r 0 then zP (pL R ((bY 9 s).1.li,[])) (pL L ((bY 9 (bY 9 s).2).1.li,[]))
 else bif gP r 1 then zP (xP (pL R ((bY 9 s).1.li,[]))) (pL L ((bY 9 (bY 9 s).2).1.li,[]))
 else bif gP r 8 then zP (pL R (cI (b8 9 s).1 (b8 9 (b8 9 s).2).1)) (pL L (cI (b8 9 (b8 9 s).2).1 (b8 9 s).1))
 else bif gP r 9 then zP (xP (pL R (cI (b8 9 s).1 (b8 9 (b8 9 s).2).1))) (pL L (cI (b8 9 (b8 9 s).2).1 (b8 9 s).1))
 else zP (xP R) L
noncomputable def Pr:Nat->Nat->List Nat×List Nat->List Nat×List Nat->Bool
 |0,s,L,R=>gI (s % 16) (s / 16) L R|n+1,s,L,R=>Pr n (hR (s / 16 % 16) (s / 256)) (pL L (sL (s % 16) (hL (s / 16 % 16) (s / 256)).1,sL (s % 16) (hL (s / 16 % 16) (s / 256)).2)) (pL R (sL (s % 16) (hH (s / 16 % 16) (s / 256)).1,sL (s % 16) (hH (s / 16 % 16) (s / 256)).2))
theorem Jg(c:List Nat)(d:List Int)(e:AE):dI c d (e.li,[])=((e.ev c:Nat):Int):=by show((dt (1::c) e.li:Nat):Int)+dw d []=_;rw[ph,zH,e.dG]
theorem XX{a b l r:Int}(h:l<=r)(e:r+a<=l+b):a<=b:=by omega
theorem X4{a b l r:Int}(h:l<=r)(e:r+a+1<=l+b):a<b:=by omega
theorem Zrj{l r:Int}(h:l<=r)(e:r+1<=l):False:=by omega
theorem Zu0(c:List Nat)(d:List Int)(r s:Nat)(L R:List Nat×List Nat)(h:dI c d L<=dI c d R)(k:gI r s L R=true):hP c d r s:=by
 unfold gI at k;cases e0:gP r 0 with
 |true=>rw[zE e0]at k ⊢;have e:=Ea c d k;rw[jX,jX,Jg,Jg]at e;exact zG.1 (XX h e)|false=>
  cases e1:gP r 1 with
  |true=>rw[zE e1]at k ⊢;have e:=Ea c d k;rw[Jd,jX,jX,Jg,Jg]at e;exact Io.1 (X4 h e)|false=>
   cases e8:gP r 8 with
   |true=>rw[zE e8]at k ⊢;have e:=Ea c d k;rw[jX,jX]at e;exact Zu9 c d (XX h e)|false=>
    cases e9:gP r 9 with
    |true=>rw[zE e9]at k ⊢;have e:=Ea c d k;rw[Jd,jX,jX]at e;have z:=X4 h e;have y:=Je c d (b8 9 s).1 (b8 9 (b8 9 s).2).1;show(b8 9 s).1.ev c d<(b8 9 (b8 9 s).2).1.ev c d;exact Int.lt_of_sub_neg (y▸Int.sub_neg_of_lt z)|false=>rw[e0,e1,e8,e9]at k;have e:=Ea c d k;rw[Jd]at e;exact(Zrj h e).elim
theorem X5(c:List Nat)(d:List Int):∀(n s:Nat) (L R:List Nat×List Nat),dI c d L<=dI c d R->Pr n s L R=true->Pq c d n s
 |0,s,L,R,h,k=>Zu0 c d _ _ L R h k|n+1,s,L,R,h,k=>λg=>X5 c d n _ _ _ (by rw[jX,jX,Jc,Jc];exact Wl h (Int.mul_le_mul_of_nonneg_left (Zul c d _ _ g) (vH _))) k
end L3
theorem iN(c:List Nat)(d:List Int)(n s:Nat)(h:L3.Pr n s ([],[]) ([],[])=true):L3.Pq c d n s:=L3.X5 c d n s ([],[]) ([],[]) (Int.le_refl _) h
set_option Elab.async false
set_option linter.all false
set_option maxRecDepth 100000
namespace L2
open PySem PySem.Spec PyProof.Rows
noncomputable abbrev Key:=Sum Int aj
noncomputable def zQ:Key->Yd->Bool
 | .inl k,v=>Value.isInt k v|.inr x,v=>Xq x v
noncomputable def Zwx(w:aO):Key->Int
 | .inl k=>hashInt k|.inr x=>hashStr w x
theorem t7:∀{k:Key} {v:Yd},zQ k v=true->(∃i t,k=Sum.inl i/\v=Value.int i t)\/(∃x t,k=Sum.inr x/\v=Value.str x t)
 | .inl i,v,h=>by obtain⟨t,e⟩:=Value.isInt_shape (k:=i) (v:=v) h;exact .inl ⟨i,t,rfl,e⟩|.inr x,v,h=>by obtain⟨t,e⟩:=Value.isStrOf_shape (x:=x) (v:=v) h;exact .inr ⟨x,t,rfl,e⟩
theorem Zml(i:Int)(t:fj):zQ (.inl i) (.int i t)=true:=by simp[zQ,Value.isInt]
theorem ZmM(x:aj)(t:fj):zQ (.inr x) (.str x t)=true:=by simp[zQ,Xq]
theorem ZsV(a b:Int):decide ((Sum.inl a:Key)=Sum.inl b)=(a==b):=by
 by_cases e:a=b
 .subst e;simp
 .have h:¬(Sum.inl a:Key)=Sum.inl b:=λq=>e (Sum.inl.inj q);rw[decide_eq_false h];exact(beq_eq_false_iff_ne.mpr e).symm
theorem Zs1(a b:aj):decide ((Sum.inr a:Key)=Sum.inr b)=decide (a=b):=by
 by_cases e:a=b
 .subst e;simp
 .have h:¬(Sum.inr a:Key)=Sum.inr b:=λq=>e (Sum.inr.inj q);rw[decide_eq_false h,decide_eq_false e]
theorem ZrJ(a:Int)(b:aj):decide ((Sum.inl a:Key)=Sum.inr b)=false:=decide_eq_false (λq=>nomatch q)
theorem ZrN(a:aj)(b:Int):decide ((Sum.inr a:Key)=Sum.inl b)=false:=decide_eq_false (λq=>nomatch q)
noncomputable def mO(prog:Y3)(w:aO):PySem.KeyKind prog w Key where
 is:=zQ
 hash:=Zwx w
 inj:=λv a b ha hb=>by
  rcases t7 ha with⟨i,t,rfl,rfl⟩|⟨x,t,rfl,rfl⟩
  .rcases t7 hb with⟨j,u,rfl,e⟩|⟨y,u,rfl,e⟩
   .injection e with e1 _;rw[e1]
   .exact nomatch e
  .rcases t7 hb with⟨j,u,rfl,e⟩|⟨y,u,rfl,e⟩
   .exact nomatch e
   .injection e with e1 _;rw[e1]
 byValue:=λk v h=>by rcases t7 h with⟨i,t,rfl,rfl⟩|⟨x,t,rfl,rfl⟩<;>rfl
 pyHash:=λhv h=>by
  rcases t7 hv with⟨i,t,rfl,rfl⟩|⟨x,t,rfl,rfl⟩
  .exact wpAny_pyHash_int h
  .exact Ve h
 eqBool:=λhu hv h=>by
  rcases t7 hu with⟨i,t,rfl,rfl⟩|⟨x,t,rfl,rfl⟩
  .rcases t7 hv with⟨j,u,rfl,rfl⟩|⟨y,u,rfl,rfl⟩
   .rw[ZsV]at h;exact wpAny_eqBool_int h
   .rw[ZrJ]at h;exact O4 i t y u _ _ _ _ h
  .rcases t7 hv with⟨j,u,rfl,rfl⟩|⟨y,u,rfl,rfl⟩
   .rw[ZrN]at h;exact O5 x t j u _ _ _ _ h
   .rw[Zs1]at h;exact wpAny_eqBool_str h
 «strs»:=λk x t v h=>by
  rcases t7 h with⟨i,u,rfl,e⟩|⟨y,u,rfl,e⟩
  .exact nomatch e
  .injection e with e1 _
   subst e1;cases v<;>rfl
theorem Zjg(prog:Y3)(w:aO)(i:Int)(t:fj):(mO prog w).is (.inl i) (.int i t)=true:=Zml i t
theorem Zjy(prog:Y3)(w:aO)(x:aj)(t:fj):(mO prog w).is (.inr x) (.str x t)=true:=ZmM x t
end L2
namespace L2
open PySem PySem.Spec PyProof.Rows
inductive V where
 |non|bl (b:Bool)|int (i:Int)|str (x:aj)|Eb (b:Array UInt8)|flt (b:UInt64)|ref (a:Yq)|ty (n:String)
 deriving DecidableEq
noncomputable def RelV:V->Yd->Prop
 | .non,u=>u=Value.none|.bl b,u=>u=Value.bool b|.int i,u=>∃t,u=Value.int i t|.str x,u=>∃t,u=Value.str x t
 | .Eb b,u=>∃t,u=Value.bytes b t|.flt b,u=>∃t,u=Value.float b t|.ref a,u=>u=Value.ref a|.ty n,u=>u=Value.type n
noncomputable abbrev Vals:List V->List Yd->Prop:=Paired RelV
theorem Vals.length{xs:List V}{us:List Yd}(r:Vals xs us):xs.length=us.length:=Xr r
theorem Vals.get:∀{xs:List V} {us:List Yd} {i:Nat} {x:V},Vals xs us->xs[i]?=Ya x->∃u,us[i]?=Ya u/\RelV x u
 |_,_,_,_,.nil,e=>by simp at e|_,_,0,_,.cons r _,e=>by simp at e;subst e;exact⟨_,rfl,r⟩|_,_,i+1,x,.cons _ t,e=>by obtain⟨u,h1,h2⟩:=Vals.get (i:=i) (x:=x) t (by simpa using e);exact⟨u,by simpa using h1,h2⟩
theorem Vals.set{x:V}{u:Yd}(r:RelV x u):∀{xs:List V} {us:List Yd} (i:Nat),Vals xs us->Vals (xs.set i x) (us.set i u)
 |_,_,_,.nil=>.nil|_,_,0,.cons _ t=>.cons r t|_,_,i+1,.cons q t=>.cons q (Vals.set r i t)
theorem Vals.append:∀{xs ys:List V} {us ws:List Yd},Vals xs us->Vals ys ws->Vals (xs++ys) (us++ws)
 |_,_,_,_,.nil,s=>s|_,_,_,_,.cons r t,s=>.cons r (Vals.append t s)
theorem Vals.take:∀{xs:List V} {us:List Yd} (n:Nat),Vals xs us->Vals (xs.take n) (us.take n)
 |_,_,0,_=>.nil|_,_,_+1,.nil=>.nil|_,_,n+1,.cons r t=>.cons r (Vals.take n t)
theorem Vals.drop:∀{xs:List V} {us:List Yd} (n:Nat),Vals xs us->Vals (xs.drop n) (us.drop n)
 |_,_,0,r=>r|_,_,_+1,.nil=>.nil|_,_,n+1,.cons _ t=>Vals.drop n t
noncomputable def nU:Option V->Option Yd->Prop
 |some v,Ya u=>RelV v u|none,Ye=>True|_,_=>False
noncomputable def KV{κ:Type}:List (κ×V)->List (κ×Yd)->Prop:=Paired λ(p:κ×V) (q:κ×Yd)=>p.1=q.1/\RelV p.2 q.2
noncomputable def kV:Key->V
 | .inl i=>.int i|.inr x=>.str x
inductive HO where
 /--a list -/
 |lst (xs:List V)
 /--a tuple (never changes) -/
 |tup (xs:List V)
 /--a dict whose keys are ints and texts;one whose keys are tuples of ints and texts (the empty one is both) -/
 |dK (kvs:List (Key×V))|dT (kvs:List (List Key×V))
 /--a set of ints:its members,its size -/
 |set (S:Int->Bool) (n:Nat)
 /--an instance of the class at C,its dict at dx,its attributes -/
 |ins (C dx:Yq) (fs:List (aj×V))
 /--the dict of the instance at x -/
 |own (x:Yq)
 /--the dict of an exception -/
 |xd (fs:List (aj×V))
 /--a bound method,f of x -/
 |met (f x:Yq)
 /--a range object lo,lo+1,.. below hi -/
 |Jh (lo hi:Int)
 /--a thing that is known to the object (the script;a dict while a loop walks it):read,never written while it is so -/
 |bJ (o:aB) (u:HO)
 /--a code object's table -/
 |vK (ps:Array Yd)
 /--any other thing,by what is true of its one object (a def of one's own:AdS a S n:=HO.ext λh=>..) -/
 |ext (φ:aq->Prop)
noncomputable abbrev Hp:=Yq->Option HO
noncomputable def upd(H:Hp)(a:Yq)(o:HO):Hp:=λb=>if b=a then Ya o else H b
variable{H:Hp}
theorem dz{a:Yq}{o:HO}:upd H a o a=Ya o:=by unfold upd;rw[if_pos rfl]
variable{b:Yq}
theorem Zr{a:Yq}{o:HO}(h:b≠a):upd H a o b=H b:=by unfold upd;rw[if_neg h]
theorem lF{a:Yq}{o:HO}(h:H a=Ya o)(h':H b=Ye):a≠b:=by intro e;subst e;rw[h]at h';cases h'
section
variable (P:Y3) (w:aO)
def rF(h:aq)(a:Yq)(items:Array Yd):Prop:=∃o,h.get? a=Ya o/\(o.cls= .type "tuple" /\o.dict=Ye)/\∃n,o.data= .seq items n
theorem rF.tup{h:aq}{a:Yq}{items:Array Yd}(x:rF h a items):IsTup h a items:=let⟨o,e,c,d⟩:=x;⟨o,e,c.1,d⟩
theorem rF.new(h:aq)(items:Array Yd):rF (h.push {cls:=.type "tuple",data:=.seq items}) h.objs.size items:=⟨_,Yw _ rfl,⟨rfl,rfl⟩,0,rfl⟩
noncomputable def bZ(H:Hp)(h:aq)(a:Yq):HO->Prop
 | .lst xs=>xs.length<=bj/\∃(its:List Yd) (n:Nat),Vals xs its/\h.get? a=Ya {cls:=.type "list",data:=.seq its.toArray n}|.tup xs=>xs.length<=bj/\∃its:List Yd,Vals xs its/\rF h a its.toArray|.dK kvs=>kvs.length<=bj/\(a==vg)=false/\∃vs,KV kvs vs/\h.DictOf (mO P w) a vs|.dT kvs=>kvs.length<=bj/\(a==vg)=false/\∃xs:List (List Key×Yq×Yd),
   Paired (λ(p:List Key×V) (q:List Key×Yq×Yd)=>p.1=q.1/\H q.2.1=Ya (.tup (p.1.map kV))/\RelV p.2 q.2.2) kvs xs/\
   ∃o es ep,h.get? a=Ya o/\o.ExactDict/\o.data= .dict es ep/\es.toList=xs.map (entryOfKey (Ho (mO P w)))/\(xs.map (·.1)).Nodup
 | .set S n=>h.SetOf (intKind P w) a S n|.ins C dx fs=>H dx=Ya (.own a)/\fs.length<=1000/\dx≠a/\h.get? a=Ya (wX C dx)/\
   ∃mA,h.Ns1 dx mA/\(∀f,nU (fs.lookup f) (mA f))/\PySem.Within mA (fs.map (·.1))
 | .own _=>∃o,h.get? a=Ya o|.xd fs=>∃mA,h.Ns1 a mA/\∀f,nU (fs.lookup f) (mA f)|.Jh lo hi=>∃t u v,h.get? a=Ya {cls:=.type "range",data:=.fields #[.int lo t,.int hi u,.int 1 v]}|.bJ o u=>h.get? a=Ya o/\bZ H h a u
 | .vK ps=>h.get? a=Ya {cls:=.none,data:=.fields ps}|.met f x=>h.get? a=Ya (Mv (.ref f) (.ref x))|.ext φ=>φ h/\(∃o,h.get? a=Ya o)/\∀h1 h2:aq,φ h1->(∀o,h1.get? a=Ya o->h2.get? a=Ya o)->φ h2
def cV(H:Hp)(h:aq):Prop:=∀a o,H a=Ya o->bZ P w H h a o
end
section
variable {P:Y3} {w:aO} {H H':Hp} {h h':aq} {a:Yq} {o:HO}
theorem bZ.lt(x:bZ P w H h a o):a<h.objs.size:=by
 cases o with
 |lst xs=>obtain⟨_,_,_,_,e⟩:=x;exact Yx e|tup xs=>obtain⟨_,_,_,p⟩:=x;exact p.tup.lt|dK kvs=>obtain⟨_,_,_,_,o,_,_,e,_⟩:=x;exact Yx e|dT kvs=>obtain⟨_,_,_,_,o,_,_,e,_⟩:=x;exact Yx e
 |set S n=>obtain⟨o,_,_,_,e,_⟩:=x;exact Yx e|ins C dx fs=>obtain⟨_,_,_,e,_⟩:=x;exact Yx e|own y=>obtain⟨_,e⟩:=x;exact Yx e|xd fs=>obtain⟨_,⟨_,_,_,e,_⟩,_⟩:=x;exact Yx e
 |Jh lo hi=>obtain⟨_,_,_,e⟩:=x;exact Yx e|bJ ob u=>obtain⟨e,_⟩:=x;exact Yx e|vK ps=>exact Yx (show h.get? a=Ya _ from x)|met f y=>exact Yx (show h.get? a=Ya _ from x)
 |ext φ=>obtain⟨_,⟨_,e⟩,_⟩:=x;exact Yx e
theorem Paired.Ms{α β:Type}{F G:α->β->Prop}:∀{l₁:List α} {l₂:List β},Paired F l₁ l₂->(∀a b,F a b->G a b)->Paired G l₁ l₂
 |_,_,.nil,_=>.nil|_,_,.cons r t,f=>.cons (f _ _ r) (Paired.Ms t f)
theorem bZ.stay(x:bZ P w H h a o)(k:∀b u,(b=a\/H b=Ya (.own a))->h.get? b=Ya u->h'.get? b=Ya u)(ho:∀b,H b=Ya (.own a)->H' b=Ya (.own a))(ht:∀b xs,H b=Ya (.tup xs)->H' b=Ya (.tup xs)):bZ P w H' h' a o:=by
 induction o with
 |lst xs=>obtain⟨z,its,n,r,e⟩:=x;exact⟨z,its,n,r,k _ _ (.inl rfl) e⟩|tup xs=>obtain⟨z,its,r,ob,e,c⟩:=x;exact⟨z,its,r,ob,k _ _ (.inl rfl) e,c⟩|dK kvs=>obtain⟨z,y,vs,r,ob,es,ep,e,c⟩:=x;exact⟨z,y,vs,r,ob,es,ep,k _ _ (.inl rfl) e,c⟩|dT kvs=>obtain⟨z,y,xs,r,ob,es,ep,e,c⟩:=x;exact⟨z,y,xs,Paired.Ms r λp q z=>⟨z.1,ht _ _ z.2.1,z.2.2⟩,ob,es,ep,k _ _ (.inl rfl) e,c⟩
 |set S n=>obtain⟨ob,es,ep,t,e,c⟩:=x;exact⟨ob,es,ep,t,k _ _ (.inl rfl) e,c⟩|ins C dx fs=>obtain⟨d,z,ne,e,mA,⟨od,es,ep,e2,c⟩,r⟩:=x;exact⟨ho _ d,z,ne,k _ _ (.inl rfl) e,mA,⟨od,es,ep,k _ _ (.inr d) e2,c⟩,r⟩
 |own y=>obtain⟨ob,e⟩:=x;exact⟨ob,k _ _ (.inl rfl) e⟩|xd fs=>obtain⟨mA,⟨od,es,ep,e,c⟩,r⟩:=x;exact⟨mA,⟨od,es,ep,k _ _ (.inl rfl) e,c⟩,r⟩|Jh lo hi=>obtain⟨t,u,v,e⟩:=x;exact⟨t,u,v,k _ _ (.inl rfl) e⟩|bJ ob u ih=>obtain⟨e,q⟩:=x;exact⟨k _ _ (.inl rfl) e,ih q⟩
 |vK ps=>have e:h.get? a=Ya {cls:=.none,data:=.fields ps}:=x;show h'.get? a=Ya {cls:=.none,data:=.fields ps};exact k a _ (.inl rfl) e|met f y=>have e:h.get? a=Ya (Mv (.ref f) (.ref y)):=x;show h'.get? a=Ya (Mv (.ref f) (.ref y));exact k a _ (.inl rfl) e|ext φ=>obtain⟨p,⟨o,e⟩,st⟩:=x;exact⟨st _ _ p λo q=>k _ _ (.inl rfl) q,⟨o,k _ _ (.inl rfl) e⟩,st⟩
theorem cV.lt(x:cV P w H h)(e:H a=Ya o):a<h.objs.size:=(x a o e).lt
theorem cV.fresh(x:cV P w H h)(e:h.objs.size<=a):H a=Ye:=by
 cases q:H a with
 |none=>rfl|some u=>exact absurd (Yz (x.lt q) e) (tW _)
theorem cV.kept(x:cV P w H h)(k:∀b u,h.get? b=Ya u->h'.get? b=Ya u):cV P w H h':=λa o e=>(x a o e).stay (λb u _ q=>k b u q) (λ_ q=>q) λ_ _ q=>q
theorem cV.laid(x:cV P w H h)(k:∀b u,h.get? b=Ya u->h'.get? b=Ya u)(hp:h.objs.size<=a)(new:bZ P w (upd H a o) h' a o):cV P w (upd H a o) h':=λb u e=>by
 have hn:=x.fresh hp;by_cases hb:b=a
 .subst hb;rw[dz]at e;cases e;exact new
 .rw[Zr hb]at e;exact(x b u e).stay (λc v _ q=>k c v q) (λc q=>by rw[Zr (lF q hn)];exact q) λc xs q=>by rw[Zr (lF q hn)];exact q
end
def Rd(H:Hp)(a:Yq)(u:HO):Prop:=H a=Ya u\/∃o,H a=Ya (.bJ o u)
theorem Rd.ok{P:Y3}{w:aO}{h:aq}{a:Yq}{u:HO}(r:Rd H a u)(x:cV P w H h):bZ P w H h a u:=by
 rcases r with r|⟨o,r⟩
 .exact x a u r
 .obtain⟨_,q⟩:=x a _ r;exact q
noncomputable def Ec:Option HO->Prop
 |some (.lst _)=>True|some (.dK _)=>True|some (.dT _)=>True|some (.set _ _)=>True
 |some (.ins _ _ _)=>True|some (.ext _)=>True|_=>False
section
variable {P:Y3} {w:aO} {H:Hp} {h h':aq} {x e:Yq} {o':HO}
theorem cV.write(ok:cV P w H h)(mu:Ec (H x))(he:e=x\/H e=Ya (.own x))(k:∀b u,b≠e->h.get? b=Ya u->h'.get? b=Ya u)(heo:∃u,h'.get? e=Ya u)(new:bZ P w (upd H x o') h' x o'):cV P w (upd H x o') h':=λb u q=>by
 have Ui:∀c y,H c=Ya (.own y)->c≠x:=λc y r z=>by subst z;rw[r]at mu;exact mu
 have Adv:∀c xs,H c=Ya (.tup xs)->c≠x:=λc xs r z=>by subst z;rw[r]at mu;exact mu
 by_cases hb:b=x
 .subst hb;rw[dz]at q;cases q;exact new
 .rw[Zr hb]at q;by_cases hbe:b=e
  .have q':H b=Ya (.own x):=by
    rcases he with z|z
    .exact absurd (hbe.trans z) hb
    .rw[hbe];exact z
   rw[q]at q';cases q';obtain⟨v,hv⟩:=heo;exact⟨v,by rw[hbe];exact hv⟩
  .refine(ok b u q).stay (λc v hc r=>k c v ?_ r) (λc r=>by rw[Zr (Ui c b r)];exact r) λc xs r=>by rw[Zr (Adv c xs r)];exact r
   rcases hc with rfl|hc
   .exact hbe
   .rintro rfl;rcases he with z|z
    .exact Ui c b hc z
    .rw[hc]at z;cases z;exact hb rfl
end
structure Un(fs ex:List Yq)(H H':Hp)(h h':aq):Prop where
 keep:∀b o,h.get? b=Ya o->H b=Ye->b∉fs->b∉ex->h'.get? b=Ya o
 slot:∀b o,h.get? b=Ya o->H b=Ye->b∈fs->b∉ex->∃sl,h'.get? b=Ya {o with slots:=sl}
 free:∀b o,h.get? b=Ya o->H b=Ye->b∉ex->H' b=Ye
 there:∀b o,h.get? b=Ya o->b∉ex->∃o',h'.get? b=Ya o'
 tups:∀b xs,H b=Ya (.tup xs)->H' b=Ya (.tup xs)
 kI:∀b o u,H b=Ya (.bJ o u)->H' b=Ya (.bJ o u)
 mH:∀b ps,H b=Ya (.vK ps)->∃more,H' b=Ya (.vK (ps++more))
section
variable {fs fs' ex ex':List Yq} {H H1 H2:Hp} {h h1 h2 h':aq} {a x e:Yq} {o:HO}
theorem Un.any(u:Un fs ex H H1 h h1){ob:aB}(q:h.get? b=Ya ob)(n:H b=Ye)(hx:b∉ex):∃sl,h1.get? b=Ya {ob with slots:=sl}:=by
 by_cases hb:b∈fs
 .exact u.slot b ob q n hb hx
 .exact⟨ob.slots,u.keep b ob q n hb hx⟩
theorem Un.trans(a:Un fs ex H H1 h h1)(b:Un fs ex H1 H2 h1 h2):Un fs ex H H2 h h2 where
 keep:=λc ob q n hc hx=>b.keep c ob (a.keep c ob q n hc hx) (a.free c ob q n hx) hc hx
 slot:=λc ob q n hc hx=>by obtain⟨sl,e1⟩:=a.slot c ob q n hc hx;obtain⟨sl',e2⟩:=b.slot c _ e1 (a.free c ob q n hx) hc hx;exact⟨sl',e2⟩
 free:=λc ob q n hx=>by obtain⟨o',e1⟩:=a.there c ob q hx;exact b.free c o' e1 (a.free c ob q n hx) hx
 there:=λc ob q hx=>by obtain⟨o',e1⟩:=a.there c ob q hx;exact b.there c o' e1 hx
 tups:=λc xs q=>b.tups c xs (a.tups c xs q)
 kI:=λc ob xs q=>b.kI c ob xs (a.kI c ob xs q)
 mH:=λc ps q=>by obtain⟨m1,e1⟩:=a.mH c ps q;obtain⟨m2,e2⟩:=b.mH c _ e1;exact⟨m1++m2,by rw[e2,Wz]⟩
theorem Un.kept(k:∀b u,h.get? b=Ya u->h'.get? b=Ya u):Un fs ex H H h h':=⟨λb ob q _ _ _=>k b ob q,λb ob q _ _ _=>⟨ob.slots,k b ob q⟩,λ_ _ _ n _=>n,λb ob q _=>⟨ob,k b ob q⟩,λ_ _ q=>q,λ_ _ _ q=>q,λ_ ps q=>⟨#[],by rw[q];simp⟩⟩
theorem Un.refl:Un fs ex H H h h:=Un.kept λ_ _ q=>q
theorem Un.laid(k:∀b u,h.get? b=Ya u->h'.get? b=Ya u)(hp:h.objs.size<=a)(hn:H a=Ye):Un fs ex H (upd H a o) h h' where
 keep:=λb u q _ _ _=>k b u q
 slot:=λb u q _ _ _=>⟨u.slots,k b u q⟩
 free:=λb u q n _=>by rw[Zr (eQ (Yz (Yx q) hp))];exact n
 there:=λb u q _=>⟨u,k b u q⟩
 tups:=λb xs q=>by rw[Zr (lF q hn)];exact q
 kI:=λb u xs q=>by rw[Zr (lF q hn)];exact q
 mH:=λb ps q=>⟨#[],by rw[Zr (lF q hn),q];simp⟩
theorem Un.write(mu:Ec (H x))(he:e=x\/H e=Ya (.own x))(k:∀b u,b≠e->h.get? b=Ya u->h'.get? b=Ya u)(heo:∃u,h'.get? e=Ya u):Un fs ex H (upd H x o) h h':=by
 have hx:∀b,H b=Ye->b≠x:=λb n z=>by subst z;rw[n]at mu;exact mu
 have hb:∀b,H b=Ye->b≠e:=λb n z=>by
  subst z;rcases he with r|r
  .exact hx b n r
  .rw[n]at r;cases r
 have hm:∀b u,H b=Ya u->¬Ec (Ya u)->b≠x:=λb u q nm z=>by subst z;rw[q]at mu;exact nm mu
 refine⟨λb u q n _ _=>k b u (hb b n) q,λb u q n _ _=>⟨u.slots,k b u (hb b n) q⟩,λb u q n _=>by rw[Zr (hx b n)];exact n,λb u q _=>?_,
  λb xs q=>by rw[Zr (hm b _ q λz=>z)];exact q,λb u xs q=>by rw[Zr (hm b _ q λz=>z)];exact q,λb ps q=>⟨#[],by rw[Zr (hm b _ q λz=>z),q];simp⟩⟩
 by_cases hbe:b=e
 .subst hbe;exact heo
 .exact⟨u,k b u hbe q⟩
end
noncomputable def xQ(h:aq)(H:Hp):List Yq:=(kW h.objs.size).filter λa=>(H a).isSome
noncomputable def t8(h:aq)(H:Hp):aq:=GZ h (xQ h H)
theorem Zmc(h:aq)(H:Hp):(t8 h H).objs.size=h.objs.size:=PySem.W.hideAll_size _ _
theorem Zn0{h:aq}{o:aB}(e:h.get? b=Ya o)(n:H b=Ye):(t8 h H).get? b=Ya o:=tD _ e λhm=>by have q:(H b).isSome=true:=(V0.mp hm).2;rw[n]at q;simp at q
theorem ZqF{h:aq}{o:aB}(e:(t8 h H).get? b=Ya o):h.get? b=Ya o/\H b=Ye:=by
 have e':h.get? b=Ya o:=GX (xQ h H) e;refine⟨e',?_⟩;cases q:H b with
 |none=>rfl|some x=>have hm:b∈xQ h H:=V0.mpr ⟨HD.mpr (Yx e'),by simp[q]⟩;have z:(t8 h H).get? b=Ye:=Uz (xQ h H) hm;rw[z]at e;cases e
noncomputable def Zqc(g h:aq)(L:Yq):List (Yq×aB):=(kW h.objs.size).filterMap λa=>if a=L\/(g.get? a).isSome=true then Ye else(h.get? a).map λo=>(a,o)
noncomputable def rest(g h:aq)(L d:Yq):List (Yq×aB):=(Zqc g h L).filter λp=>decide (p.1≠d)
end L2
namespace L2
open PySem PySem.Spec PyProof.Rows
structure Mod(K:Yb)(mg:aj->Option Yd)(base:aq):Prop where
 vM:K.In base
 glob:base.Ns Y4 mg
 blt:∃mb,base.Ns Ng mb/\∀x:aj,x≠ "__name__" ->mb x=gb x
 nolimit:base.NoLimit
/--the context:a def's body (or a comprehension's block) running. base:fixed through the whole law;s₀,H₀:the entry;outer:the frames whose slots others may change(a def's callers);stack:all frames that run;
  ex:iterators that were made ahead of the entry and are walked here (a comprehension's);fn:the names whose cells were made at the entry (a def:all;a comprehension's block:its own);calm:not within an except suite;pn:pins that every state bears;xe:what is wanted of an exception that leaves the code -/
structure Cx where
 prog:Y3
 w:aO
 K:Yb
 mg:aj->Option Yd
 base:aq
 A:bB
 N:List aj
 s₀:Yf
 H₀:Hp
 env:cH
 outer:List cH
 stack:List cH
 ex:List Yq
 fn:aj->Bool
 calm:Bool
 pn:List (Yq×aB)
 xe:Yd->Yf->Prop
noncomputable def frs(l:List cH):List Yq:=l.filterMap (·.frame)
noncomputable abbrev Cx.fs(X:Cx):List Yq:=frs X.outer
def Ji(sc:Scope)(x:aj):Prop:=sc.names.lookup x=Ya .local\/sc.names.lookup x=Ya .cell\/sc.names.lookup x=Ya .free
def Loc(sc:Scope)(x:aj):Prop:=sc.names.lookup x=Ya .local\/sc.names.lookup x=Ya .cell
def Look(env:cH)(h:aq)(m:aj->Option Yd)(x:aj)(u:Yd):Prop:=(env.kindOf x=Ya .local/\m x=Ya u)\/((env.kindOf x=Ya .cell\/env.kindOf x=Ya .free)/\∃c,env.cells.lookup x=Ya c/\h.IsCell c (Ya u))
structure Cx.Ok(X:Cx):Prop where
 mod:Mod X.K X.mg X.base
 kind:X.env.scope.kind= .function
 glob:X.env.globals=Y4
 blt:X.env.builtins=Ng
 above:X.s₀.heap.objs.size<=X.env.locals
 inj:∀x y c,X.env.cells.lookup x=Ya c->X.env.cells.lookup y=Ya c->x=y
 has:∀x,(X.env.kindOf x=Ya .cell\/X.env.kindOf x=Ya .free)->∃c,X.env.cells.lookup x=Ya c
 cab:∀x c,X.fn x=true->X.env.cells.lookup x=Ya c->X.s₀.heap.objs.size<=c
 hd:X.calm=true->X.A.handled=Ye
 frames:X.A.frames=Ya X.stack
 zR:X.stack=X.outer\/(X.stack=X.env::X.outer/\X.env.frame=Ya X.env.locals)
 Ed:∀b∈X.ex,b≠X.env.locals/\∀x c,X.env.cells.lookup x=Ya c->c≠b
 bs:∀b o,X.base.get? b=Ya o->X.s₀.heap.get? b=Ya o/\X.H₀ b=Ye
 nW:X.base.objs.size<=X.s₀.heap.objs.size
 wQ:∀b o,X.base.get? b=Ya o->b∉X.ex
 wR:∀b∈X.ex,b∉X.fs
 jL:X.s₀.heap.FunFrames X.base X.outer
 qw:∀b∈X.fs,X.H₀ b=Ye
structure Inv(X:Cx)(pins:List (Yq×aB))(σ:List (Option V))(H:Hp)(s:Yf):Prop where
 ok:X.Ok
 os:s.os=X.s₀.os
 bare:rA s.gens
 base:Un X.fs X.ex X.H₀ H X.s₀.heap s.heap
 loc:∃m,s.heap.Ns X.env.locals m/\∀(i:Nat) (x:aj) (v:V),X.N[i]?=Ya x->σ[i]?=Ya (Ya v)->Ji X.env.scope x->∃u,RelV v u/\Look X.env s.heap m x u
 cell:∀x c,X.env.cells.lookup x=Ya c->∃v,s.heap.IsCell c v
 free:H X.env.locals=Ye
 jK:∀x c,X.env.cells.lookup x=Ya c->H c=Ye
 pin:∀p∈X.pn++pins,s.heap.get? p.1=Ya p.2/\H p.1=Ye/\p.1≠X.env.locals/\p.1∉X.fs/\∀v,p.2.data≠ .cell v
 hok:cV X.prog X.w H s.heap
 len:σ.length=X.N.length
variable{t':Nat}{ch:List Yq}{E:Yd->Yf->Prop}
section
variable {X:Cx} {pins:List (Yq×aB)} {σ:List (Option V)} {H H':Hp} {s:Yf} {h':aq}
theorem Cx.Ok.Adw(ok:X.Ok){b:Yq}{o:aB}(e:X.base.get? b=Ya o):b∉X.fs:=λhb=>by have:=(ok.jL.mem hb).1;rw[e]at this;cases this
theorem Inv.bs(I:Inv X pins σ H s):∀b o,X.base.get? b=Ya o->s.heap.get? b=Ya o/\H b=Ye:=λb o e=>⟨I.base.keep b o (I.ok.bs b o e).1 (I.ok.bs b o e).2 (I.ok.Adw e) (I.ok.wQ b o e),I.base.free b o (I.ok.bs b o e).1 (I.ok.bs b o e).2 (I.ok.wQ b o e)⟩
theorem Inv.bk(I:Inv X pins σ H s):∀b o,X.base.get? b=Ya o->s.heap.get? b=Ya o:=λb o e=>(I.bs b o e).1
theorem Inv.mod(I:Inv X pins σ H s):Mod X.K X.mg X.base:=I.ok.mod
theorem Inv.bO(I:Inv X pins σ H s):X.K.In s.heap:=I.ok.mod.vM.keeps I.bk
theorem Inv.nolimit(I:Inv X pins σ H s):s.heap.NoLimit:=I.ok.mod.nolimit.keeps I.bk
theorem Inv.fr(I:Inv X pins σ H s):∃m,Fr X.base X.env.locals s.heap m:=
 let⟨m,hn,_⟩:=I.loc
 ⟨m,hn,I.bk,Ym I.ok.nW I.ok.above⟩
theorem Inv.lt(I:Inv X pins σ H s):X.env.locals<s.heap.objs.size:=let⟨_,hn,_⟩:=I.loc;hn.lt
theorem Inv.sz(I:Inv X pins σ H s):X.s₀.heap.objs.size<=s.heap.objs.size:=Ym I.ok.above (N6 I.lt)
theorem Inv.Adx(I:Inv X pins σ H s){a:Yq}(h:s.heap.objs.size<=a):a∉X.fs:=λhb=>by obtain⟨_,o,ho,_⟩:=I.ok.jL.mem hb;exact absurd (Yz (Yx ho) (Ym I.sz h)) (tW _)
theorem Inv.vN(I:Inv X pins σ H s):∀x c,X.env.cells.lookup x=Ya c->c≠X.env.locals:=λx c e z=>by obtain⟨v,o,ho,hd⟩:=I.cell x c e;obtain⟨m,⟨o',es,ep,ho',hd',_⟩,_⟩:=I.loc;rw[z,ho']at ho;cases ho;rw[hd']at hd;cases hd
theorem Inv.jL(I:Inv X pins σ H s):s.heap.FunFrames X.base X.outer:=by
 have all:∀(l:List cH),(∀b∈frs l,b∈X.fs)->X.s₀.heap.FunFrames X.base l->s.heap.FunFrames X.base l:=by
  intro l
  induction l with
  |nil=>intro _ _;trivial|cons env r ih=>intro hs hl;obtain⟨hk,⟨L,o,hf,hn,ho,hd⟩,hr⟩:=hl;have hL:L∈X.fs:=hs L (by unfold frs;rw[Nu,hf];exact Yu);obtain⟨sl,e⟩:=I.base.slot L o ho (I.ok.qw L hL) hL λz=>I.ok.wR L z hL;exact⟨hk,⟨L,_,hf,hn,e,hd⟩,ih (λb hb=>hs b (by unfold frs;rw[Nu,hf];exact Yv _ hb)) hr⟩
 exact all X.outer (λ_ hb=>hb) I.ok.jL
theorem Inv.stack(I:Inv X pins σ H s):s.heap.FunFrames X.base X.stack:=by
 rcases I.ok.zR with e|⟨e,hf⟩
 .rw[e];exact I.jL
 .rw[e];obtain⟨m,hn,_⟩:=I.loc;refine .cons (by rw[I.ok.kind];decide) hf hn ?_ I.jL;exact Dn (Ym I.ok.nW I.ok.above)
theorem Inv.wO(I:Inv X pins σ H s):∀b∈frs X.stack,b∈X.env.locals::X.fs:=λb hb=>by
 rcases I.ok.zR with e|⟨e,hf⟩
 .rw[e]at hb;exact Yv _ hb
 .rw[e]at hb;unfold frs at hb;rw[Nu,hf]at hb;exact hb
theorem Inv.Gy(I:Inv X pins σ H s):∀b∈frs X.stack,H b=Ye:=λb hb=>by
 rcases Y1.mp (I.wO b hb)with e|hb
 .rw[e];exact I.free
 .obtain⟨_,o,ho,_⟩:=I.ok.jL.mem hb;exact I.base.free b o ho (I.ok.qw b hb) λz=>I.ok.wR b z hb
theorem Inv.step{g':Array GenState}{d':Drawn}(I:Inv X pins σ H s)(hch:∀b∈ch,(b∈X.ex\/X.s₀.heap.objs.size<=b)/\b≠X.env.locals/\(∀x c,X.env.cells.lookup x=Ya c->c≠b)/\∀p∈X.pn++pins,p.1≠b)(keep:∀b o,b≠X.env.locals->b∉X.fs->b∉ch->s.heap.get? b=Ya o->H b=Ye->h'.get? b=Ya o)(slot:∀b o,b≠X.env.locals->b∈X.fs->b∉ch->s.heap.get? b=Ya o->H b=Ye->∃sl,h'.get? b=Ya {o with slots:=sl})(free:∀b o,b∉ch->s.heap.get? b=Ya o->H b=Ye->H' b=Ye)(there:∀b o,b∉ch->s.heap.get? b=Ya o->∃o',h'.get? b=Ya o')(tups:∀b xs,H b=Ya (.tup xs)->H' b=Ya (.tup xs))(kI:∀b o u,H b=Ya (.bJ o u)->H' b=Ya (.bJ o u))(mH:∀b ps,H b=Ya (.vK ps)->∃more,H' b=Ya (.vK (ps++more)))(ns:∀m,s.heap.Ns X.env.locals m->h'.Ns X.env.locals m)(hok:cV X.prog X.w H' h')(hg:rA g'):
  Inv X pins σ H' {s with heap:=h',gens:=g',drawn:=d',toks:=t'}:=by
 have X6:∀b o,X.s₀.heap.get? b=Ya o->b≠X.env.locals:=λb o e=>eQ (Yz (Yx e) I.ok.above);have Jj:∀b o,X.s₀.heap.get? b=Ya o->b∉X.ex->b∉ch:=λb o e hx hb=>by
  rcases(hch b hb).1 with z|z
  .exact hx z
  .exact absurd (Yz (Yx e) z) (tW _)
 have cellK:∀x c,X.env.cells.lookup x=Ya c->∀v,s.heap.IsCell c v->h'.IsCell c v:=λx c e v ak=>by
  obtain⟨o,ho,hd⟩:=ak;have Ef:c∉ch:=λz=>(hch c z).2.2.1 x c e rfl;by_cases hc:c∈X.fs
  .obtain⟨sl,q⟩:=slot c o (I.vN x c e) hc Ef ho (I.jK x c e);exact⟨_,q,hd⟩
  .exact⟨o,keep c o (I.vN x c e) hc Ef ho (I.jK x c e),hd⟩
 refine⟨I.ok,I.os,hg,⟨λb o e n hb hx=>?_,λb o e n hb hx=>?_,λb o e n hx=>?_,λb o e hx=>?_,λb xs e=>tups b xs (I.base.tups b xs e),λb o xs e=>kI b o xs (I.base.kI b o xs e),λb ps e=>?_⟩,?_,λx c e=>?_,?_,λx c e=>?_,λp hp=>?_,hok,I.len⟩
 .exact keep b o (X6 b o e) hb (Jj b o e hx) (I.base.keep b o e n hb hx) (I.base.free b o e n hx)
 .obtain⟨sl,e1⟩:=I.base.slot b o e n hb hx;obtain⟨sl',e2⟩:=slot b _ (X6 b o e) hb (Jj b o e hx) e1 (I.base.free b o e n hx);exact⟨sl',e2⟩
 .obtain⟨o',e1⟩:=I.base.there b o e hx;exact free b o' (Jj b o e hx) e1 (I.base.free b o e n hx)
 .obtain⟨o',e1⟩:=I.base.there b o e hx;exact there b o' (Jj b o e hx) e1
 .obtain⟨m1,e1⟩:=I.base.mH b ps e;obtain⟨m2,e2⟩:=mH b _ e1;exact⟨m1++m2,by rw[e2,Wz]⟩
 .obtain⟨m,hn,hl⟩:=I.loc;refine⟨m,ns m hn,λi x v e1 e2 e3=>?_⟩;obtain⟨u,r,l⟩:=hl i x v e1 e2 e3;refine⟨u,r,?_⟩;rcases l with l|⟨k,c,e,z⟩
  .exact .inl l
  .exact .inr ⟨k,c,e,cellK x c e _ z⟩
 .obtain⟨v,z⟩:=I.cell x c e;exact⟨v,cellK x c e v z⟩
 .obtain⟨m,⟨o,_,_,ho,_⟩,_⟩:=I.loc;exact free _ o (λz=>(hch _ z).2.1 rfl) ho I.free
 .obtain⟨v,o,ho,hd⟩:=I.cell x c e;exact free c o (λz=>(hch c z).2.2.1 x c e rfl) ho (I.jK x c e)
 .obtain⟨e,n,ne,nf,d⟩:=I.pin p hp;have Ef:p.1∉ch:=λz=>(hch p.1 z).2.2.2 p hp rfl;exact⟨keep p.1 p.2 ne nf Ef e n,free p.1 p.2 Ef e n,ne,nf,d⟩
theorem Inv.un(I:Inv X pins σ H s)(u:Un X.fs [] H H' s.heap h')(hok:cV X.prog X.w H' h'):Inv X pins σ H' {s with heap:=h',toks:=t'}:=by obtain⟨m,⟨o,es,ep,ho,r⟩,_⟩:=id I.loc;obtain⟨sl,hL⟩:=u.any ho I.free (by simp);exact I.step (g':=s.gens) (d':=s.drawn) (ch:=[]) (λ_ z=>nomatch z) (λb o _ hb _ e n=>u.keep b o e n hb (by simp)) (λb o _ hb _ e n=>u.slot b o e n hb (by simp)) (λb o _ e n=>u.free b o e n (by simp)) (λb o _ e=>u.there b o e (by simp)) u.tups u.kI u.mH (λm' hm=>by obtain⟨o',es',ep',ho',r'⟩:=hm;rw[ho]at ho';cases ho';exact⟨_,es',ep',hL,r'⟩) hok I.bare
theorem Inv.call{g':Array GenState}{d':Drawn}(I:Inv X pins σ H s)(u:Un (frs X.stack) ch H H' s.heap h')(hok:cV X.prog X.w H' h')(hg:rA g')(hch:∀b∈ch,(b∈X.ex\/X.s₀.heap.objs.size<=b)/\b≠X.env.locals/\(∀x c,X.env.cells.lookup x=Ya c->c≠b)/\∀p∈X.pn++pins,p.1≠b):
  Inv X pins σ H' {s with heap:=h',gens:=g',drawn:=d',toks:=t'}:=by
 obtain⟨m,⟨o,es,ep,ho,r⟩,_⟩:=id I.loc;obtain⟨sl,hL⟩:=u.any ho I.free λz=>(hch _ z).2.1 rfl;exact I.step (ch:=ch) hch (λb o hL hb hc e n=>u.keep b o e n (λz=>(Y1.mp (I.wO b z)).elim hL hb) hc) (λb o _ _ hc e n=>u.any e n hc) (λb o hc e n=>u.free b o e n hc) (λb o hc e=>u.there b o e hc) u.tups u.kI u.mH (λm' hm=>by obtain⟨o',es',ep',ho',r'⟩:=hm;rw[ho]at ho';cases ho';exact⟨_,es',ep',hL,r'⟩) hok hg
theorem Inv.turned{it:Yq}(I:Inv X pins σ H s)(k:∀b o,b≠it->s.heap.get? b=Ya o->h'.get? b=Ya o)(hn:H it=Ye)(hL:it≠X.env.locals)(h1:it∈X.ex\/X.s₀.heap.objs.size<=it)(h2:∀x c,X.env.cells.lookup x=Ya c->c≠it)(h3:∀p∈X.pn++pins,p.1≠it):Inv X pins σ H {s with heap:=h',toks:=t'}:=by
 have Eg:∀b u,H b=Ya u->b≠it:=λb u e z=>by rw[z,hn]at e;cases e
 refine I.step (g':=s.gens) (d':=s.drawn) (ch:=[it]) (λb hb=>?_) (λb o _ _ hc e _=>k b o (λz=>hc (by simp[z])) e) (λb o _ _ hc e _=>⟨o.slots,k b o (λz=>hc (by simp[z])) e⟩) (λ_ _ _ _ n=>n)
  (λb o hc e=>⟨o,k b o (λz=>hc (by simp[z])) e⟩) (λ_ _ e=>e) (λ_ _ _ e=>e) (λb ps e=>⟨#[],by rw[e];simp⟩) (λm hm=>?_) (λb u e=>?_) I.bare
 .have e:b=it:=by simpa using hb
  subst e;exact⟨h1,hL,h2,h3⟩
 .obtain⟨o,es,ep,ho,r⟩:=hm;exact⟨o,es,ep,k _ o (cQ hL) ho,r⟩
 .refine(I.hok b u e).stay (λc v hc q=>k c v ?_ q) (λ_ q=>q) λ_ _ q=>q;rcases hc with z|z
  .rw[z];exact Eg b u e
  .exact Eg c _ z
theorem Inv.tok(I:Inv X pins σ H s)(t:Nat):Inv X pins σ H {s with toks:=t}:=I.un (h':=s.heap) (t':=t) Un.refl I.hok
theorem Inv.kept(I:Inv X pins σ H s)(k:∀b u,s.heap.get? b=Ya u->h'.get? b=Ya u):Inv X pins σ H {s with heap:=h',toks:=t'}:=I.un (Un.kept k) (I.hok.kept k)
theorem Inv.laid{a:Yq}{o:HO}(I:Inv X pins σ H s)(k:∀b u,s.heap.get? b=Ya u->h'.get? b=Ya u)(hp:s.heap.objs.size<=a)(new:bZ X.prog X.w (upd H a o) h' a o):
  Inv X pins σ (upd H a o) {s with heap:=h',toks:=t'}:=I.un (Un.laid k hp (I.hok.fresh hp)) (I.hok.laid k hp new)
theorem Inv.write{x e:Yq}{o:HO}(I:Inv X pins σ H s)(mu:Ec (H x))(he:e=x\/H e=Ya (.own x))(k:∀b u,b≠e->s.heap.get? b=Ya u->h'.get? b=Ya u)(heo:∃u,h'.get? e=Ya u)(new:bZ X.prog X.w (upd H x o) h' x o):Inv X pins σ (upd H x o) {s with heap:=h',toks:=t'}:=I.un (Un.write mu he k heo) (I.hok.write mu he k heo new)
theorem Inv.T4{uY:List (Yq×aB)}(I:Inv X pins σ H s)(h:∀p∈uY,s.heap.get? p.1=Ya p.2/\H p.1=Ye/\p.1≠X.env.locals/\p.1∉X.fs/\∀v,p.2.data≠ .cell v):Inv X uY σ H s:=⟨I.ok,I.os,I.bare,I.base,I.loc,I.cell,I.free,I.jK,λp hp=>(gk.mp hp).elim (λz=>I.pin p (xH _ z)) (h p),I.hok,I.len⟩
theorem Pu{N:List aj}(hN:N.Nodup){i j:Nat}{x:aj}(a:N[i]?=Ya x)(b:N[j]?=Ya x):i=j:=by obtain⟨h1,e1⟩:=Yn.mp a;obtain⟨h2,e2⟩:=Yn.mp b;exact(VL hN).mp (e1.trans e2.symm)
theorem ZmQ{M:Model}{A:bB}{i:Nat}{x:aj}{v:V}{u:Yd}{Q:Unit->Yf->Prop}(I:Inv X pins σ H s)(hN:X.N.Nodup)(hi:X.N[i]?=Ya x)(hx:Loc X.env.scope x)(r:RelV v u)(h:∀s',Inv X pins (σ.set i (Ya v)) H s'->(∃a,zB a s.heap s'.heap/\(a=X.env.locals\/X.env.cells.lookup x=Ya a))->Q () s')(hf:X.fn x=true\/X.env.scope.names.lookup x=Ya .local:=by first|exact .inl rfl|exact .inr rfl|assumption):Y8 M A (storeName X.env x u) Q E s:=by
 obtain⟨m,hn,hl⟩:=id I.loc;have hcls:(X.env.scope.kind== .class|| (X.env.scope.kind== .module&&X.env.locals !=X.env.globals))=false:=by rw[I.ok.kind];rfl
 have X7:i<σ.length:=by rw[I.len];exact(Yn.mp hi).1
 have vN:=I.vN;have tracked:∀{a:Yq} {h':aq},(∃o,s.heap.get? a=Ya o/\H a=Ye)->zB a s.heap h'->cV X.prog X.w H h':=λ{a h'} ha hs b ob e=>by
  obtain⟨_,_,hfree⟩:=ha;refine(I.hok b ob e).stay (λc w' hc q=>(hs.2 c ?_).trans q) (λ_ q=>q) λ_ _ q=>q;rintro rfl;rcases hc with rfl|hc
  .rw[hfree]at e;cases e
  .rw[hfree]at hc;cases hc
 rcases hx with hk|hk
 .refine U6 hk hn (λh' hn' hs=>?_) hcls;obtain⟨oL,_,_,hoL,_⟩:=id hn;refine h _ ⟨I.ok,I.os,I.bare,⟨λb o e n hb hx=>?_,λb o e n hb hx=>?_,I.base.free,λb o e hx=>?_,I.base.tups,I.base.kI,I.base.mH⟩,⟨_,hn',λj y v' e1 e2 e3=>?_⟩,λy c e=>?_,I.free,I.jK,λp hp=>?_,tracked ⟨oL,hoL,I.free⟩ hs,by simpa using I.len⟩ ⟨_,hs,.inl rfl⟩
  .exact(hs.2 b (eQ (Yz (Yx e) I.ok.above))).trans (I.base.keep b o e n hb hx)
  .obtain⟨sl,e1⟩:=I.base.slot b o e n hb hx;exact⟨sl,(hs.2 b (eQ (Yz (Yx e) I.ok.above))).trans e1⟩
  .obtain⟨o',e1⟩:=I.base.there b o e hx;exact⟨o',(hs.2 b (eQ (Yz (Yx e) I.ok.above))).trans e1⟩
  .by_cases hj:j=i
   .subst hj;rw[hi]at e1;cases e1;rw[jR X7]at e2;cases e2;exact⟨u,r,.inl ⟨hk,by simp⟩⟩
   .rw[Y5 (cQ hj)]at e2;obtain⟨u',r',q⟩:=hl j y v' e1 e2 e3;refine⟨u',r',?_⟩;rcases q with⟨k,e⟩|⟨k,c,e,z⟩
    .refine .inl ⟨k,?_⟩;have:y≠x:=λe=>hj (Pu hN e1 (e▸hi));simp[this,e]
    .exact .inr ⟨k,c,e,z.sameBut hs (vN y c e)⟩
  .obtain⟨w',z⟩:=I.cell y c e;exact⟨w',z.sameBut hs (vN y c e)⟩
  .obtain⟨e,n,ne,nf,d⟩:=I.pin p hp;exact⟨(hs.2 p.1 ne).trans e,n,ne,nf,d⟩
 .have hfn:X.fn x=true:=by
   rcases hf with z|z
   .exact z
   .rw[z]at hk;cases hk
  obtain⟨c,hc⟩:=I.ok.has x (.inl hk);obtain⟨w',z⟩:=I.cell x c hc;refine wpAny_storeName_cell I.ok.kind hk hc z (λh' hc' hs=>?_);obtain⟨oc,hoc,Ady⟩:=id z;refine h {s with heap:=h'} ⟨I.ok,I.os,I.bare,⟨λb o e n hb hx=>?_,λb o e n hb hx=>?_,I.base.free,λb o e hx=>?_,I.base.tups,I.base.kI,I.base.mH⟩,⟨m,hn.sameBut hs (cQ (vN x c hc)),λj y v' e1 e2 e3=>?_⟩,λy c' e=>?_,I.free,I.jK,λp hp=>?_,tracked ⟨oc,hoc,I.jK x c hc⟩ hs,by simpa using I.len⟩ ⟨c,hs,.inr hc⟩
  .exact(hs.2 b (eQ (Yz (Yx e) (I.ok.cab x c hfn hc)))).trans (I.base.keep b o e n hb hx)
  .obtain⟨sl,e1⟩:=I.base.slot b o e n hb hx;exact⟨sl,(hs.2 b (eQ (Yz (Yx e) (I.ok.cab x c hfn hc)))).trans e1⟩
  .obtain⟨o',e1⟩:=I.base.there b o e hx;exact⟨o',(hs.2 b (eQ (Yz (Yx e) (I.ok.cab x c hfn hc)))).trans e1⟩
  .by_cases hj:j=i
   .subst hj;rw[hi]at e1;cases e1;rw[jR X7]at e2;cases e2;exact⟨u,r,.inr ⟨.inl hk,c,hc,hc'⟩⟩
   .rw[Y5 (cQ hj)]at e2;obtain⟨u',r',q⟩:=hl j y v' e1 e2 e3;refine⟨u',r',?_⟩;rcases q with q|⟨k,c',e,z'⟩
    .exact .inl q
    .refine .inr ⟨k,c',e,z'.sameBut hs ?_⟩;rintro rfl;exact hj (Pu hN e1 (I.ok.inj _ _ _ e hc▸hi))
  .by_cases hcc:c'=c
   .subst hcc;exact⟨_,hc'⟩
   .obtain⟨w2,z2⟩:=I.cell y c' e;exact⟨w2,z2.sameBut hs hcc⟩
  .obtain⟨e,n,ne,nf,d⟩:=I.pin p hp;refine⟨(hs.2 p.1 ?_).trans e,n,ne,nf,d⟩;intro q;rw[q,hoc]at e;have q':oc=p.2:=eE e;exact d w' (by rw[←q'];exact Ady)
theorem Px{M:Model}{A:bB}{i:Nat}{x:aj}{v:V}{u:Yd}{Q:Unit->Yf->Prop}(I:Inv X pins σ H s)(hN:X.N.Nodup)(hi:X.N[i]?=Ya x)(hx:Loc X.env.scope x)(r:RelV v u)(h:∀s',Inv X pins (σ.set i (Ya v)) H s'->Q () s')(hf:X.fn x=true\/X.env.scope.names.lookup x=Ya .local:=by first|exact .inl rfl|exact .inr rfl|assumption):Y8 M A (storeName X.env x u) Q E s:=ZmQ I hN hi hx r (λs' I' _=>h s' I') hf
theorem Inv.call'{s':Yf}(I:Inv X pins σ H s)(ho:s'.os=s.os)(u:Un (frs X.stack) ch H H' s.heap s'.heap)(hok:cV X.prog X.w H' s'.heap)(hg:rA s'.gens)(hch:∀b∈ch,(b∈X.ex\/X.s₀.heap.objs.size<=b)/\b≠X.env.locals/\(∀x c,X.env.cells.lookup x=Ya c->c≠b)/\∀p∈X.pn++pins,p.1≠b):Inv X pins σ H' s':=by obtain⟨h',g',d',t',o'⟩:=s';have e:o'=s.os:=ho;subst e;exact I.call (g':=g') (t':=t') (d':=d') u hok hg hch
end
noncomputable abbrev XK:=Yd->Option Yq->Hp->Prop
noncomputable abbrev St:=List (Option V)
noncomputable abbrev VK:=V->Hp->Prop
noncomputable abbrev TE:=St->Hp->VK->Prop
noncomputable abbrev TT:=St->Hp->(Bool->Hp->Prop)->Prop
noncomputable abbrev TA:=St->Hp->(List V->Hp->Prop)->Prop
structure Ends where
 nx:St->Hp->Prop
 rt:VK
 bk:St->Hp->Prop:=λ_ _=>False
 ct:St->Hp->Prop:=λ_ _=>False
noncomputable abbrev TS:=Ends->St->Hp->Prop
inductive EP(X:Cx)(pins:List (Yq×aB))(σ:St)(Q:VK)(u:Yd)(s':Yf):Prop where
 |mk (v:V) (H':Hp) (I:Inv X pins σ H' s') (r:RelV v u) (q:Q v H'):EP X pins σ Q u s'
inductive TP(X:Cx)(pins:List (Yq×aB))(σ:St)(Q:Bool->Hp->Prop)(b:Bool)(s':Yf):Prop where
 |mk (H':Hp) (I:Inv X pins σ H' s') (q:Q b H'):TP X pins σ Q b s'
inductive AP(X:Cx)(pins:List (Yq×aB))(σ:St)(Q:List V->Hp->Prop)(us:List Yd)(s':Yf):Prop where
 |mk (vs:List V) (H':Hp) (I:Inv X pins σ H' s') (r:Vals vs us) (q:Q vs H'):AP X pins σ Q us s'
def SP(X:Cx)(pins:List (Yq×aB))(D:Ends)(f:Flow)(s':Yf):Prop:=
 match f with
 | .next=>∃σ' H',Inv X pins σ' H' s'/\D.nx σ' H'|.brk=>∃σ' H',Inv X pins σ' H' s'/\D.bk σ' H'|.cont=>∃σ' H',Inv X pins σ' H' s'/\D.ct σ' H'|.ret u=>∃v σ' H',Inv X pins σ' H' s'/\RelV v u/\D.rt v H'
def PE(X:Cx)(e:Expr)(t:TE):Prop:=∀(pins:List (Yq×aB)) (s:Yf) (σ:St) (H:Hp) (Q:VK),Inv X pins σ H s->t σ H Q->Y8 (ao X.prog X.w) X.A (aF e X.env) (EP X pins σ Q) X.xe s
def PT(X:Cx)(e:Expr)(t:TT):Prop:=∀(pins:List (Yq×aB)) (s:Yf) (σ:St) (H:Hp) (Q:Bool->Hp->Prop),Inv X pins σ H s->t σ H Q->Y8 (ao X.prog X.w) X.A (isTrue e X.env (aF e X.env)) (TP X pins σ Q) X.xe s
def PW(X:Cx)(e:Expr)(t:TT):Prop:=∀(whole:nG Yd) (pins:List (Yq×aB)) (s:Yf) (σ:St) (H:Hp) (Q:Bool->Hp->Prop),Inv X pins σ H s->t σ H Q->Y8 (ao X.prog X.w) X.A (isTrue e X.env whole) (TP X pins σ Q) X.xe s
theorem PW.pt{X:Cx}{e:Expr}{t:TT}(h:PW X e t):PT X e t:=h _
def PA(X:Cx)(es:List Expr)(t:TA):Prop:=∀(pos:aY) (pins:List (Yq×aB)) (s:Yf) (σ:St) (H:Hp) (Q:List V->Hp->Prop),Inv X pins σ H s->t σ H Q->Y8 (ao X.prog X.w) X.A (Hs (bN pos (Yp es X.env))) (AP X pins σ Q) X.xe s
def PS(X:Cx)(st:Yd2)(t:TS):Prop:=∀(pins:List (Yq×aB)) (s:Yf) (σ:St) (H:Hp) (D:Ends),Inv X pins σ H s->t D σ H->Y8 (ao X.prog X.w) X.A (exec st X.env) (SP X pins D) X.xe s
def jd(X:Cx)(st:List Yd2)(t:TS):Prop:=∀(pins:List (Yq×aB)) (s:Yf) (σ:St) (H:Hp) (D:Ends),Inv X pins σ H s->t D σ H->Y8 (ao X.prog X.w) X.A (execs st X.env) (SP X pins D) X.xe s
theorem aP{α:Type}{t:nG α}{Q Q':α->Yf->Prop}{M:Model}{A:bB}{s:Yf}(h:Y8 M A t Q E s)(hQ:∀a s,Q a s->Q' a s):Y8 M A t Q' E s:=eO h hQ λ_ _ x=>x
end L2
namespace L2
open PySem PySem.Spec PyProof.Rows
section
variable {X:Cx}
def t_(i:Nat):TE:=λσ H Q=>∃v,σ[i]?=Ya (Ya v)/\Q v H
def tC(v:V):TE:=λ_ H Q=>Q v H
theorem uc{i:Nat}{x:aj}{pos:aY}(hN:X.N[i]?=Ya x)(hv:Ji X.env.scope x)(hd:(x==("__debug__":aj))=false:=by decide)(hcd:(x==("__classdict__":aj))=false:=by decide):PE X (.Name x pos) (t_ i):=by
 intro pins s σ H Q I h;obtain⟨v,e,h⟩:=h;obtain⟨m,hn,hl⟩:=I.loc;obtain⟨u,r,l⟩:=hl i x v hN e hv;have fin:EP X pins σ Q u s:=⟨v,H,I,r,h⟩;rcases l with⟨hk,hm⟩|⟨hk,c,hc,hcell⟩
 .exact Nh (wpAny_loadName_local I.ok.kind hk hn hm fin) hd
 .rcases hk with hk|hk
  .exact Nh (wpAny_loadName_cell I.ok.kind hk hc hcell fin) hd
  .exact Nh (wpAny_loadName_free I.ok.kind hk hc hcell fin hcd) hd
theorem X8{i j pos}:PE X (.Constant (.int i) j pos) (tC (.int i)):=λ_ _ _ H _ I h=>wpAny_Constant_int ⟨.int i,H,I.tok _,⟨_,rfl⟩,h⟩
theorem Zuz{b j pos}:PE X (.Constant (.bool b) j pos) (tC (.bl b)):=λ_ _ _ H _ I h=>Constant_bool ⟨.bl b,H,I,rfl,h⟩
theorem Zsr{j pos}:PE X (.Constant .none j pos) (tC .non):=λ_ _ _ H _ I h=>Constant_none ⟨.non,H,I,rfl,h⟩
theorem Eh{x j pos}:PE X (.Constant (.str x) j pos) (tC (.str x)):=λ_ _ _ H _ I h=>Calls.Constant_str ⟨.str x,H,I.tok _,⟨_,rfl⟩,h⟩
def Gl(X:Cx)(x:aj):Prop:=X.env.kindOf x=Ya .globalImplicit
theorem vO{E:Yd->Yf->Prop}{pins:List (Yq×aB)}{s:Yf}{σ:St}{H:Hp}{x:aj}{u:Yd}{pos:aY}{Q:Yd->Yf->Prop}(I:Inv X pins σ H s)(hg:Gl X x)(hm:X.mg x=Ya u)(h:Q u s)(hd:(x==("__debug__":aj))=false:=by decide):Y8 (ao X.prog X.w) X.A (aF (.Name x pos) X.env) Q E s:=W0 I.ok.kind hg (Calls.loadGlobal_global (by rw[I.ok.glob];exact I.mod.glob.keeps I.bk) hm h) hd
theorem zT{E:Yd->Yf->Prop}{pins:List (Yq×aB)}{s:Yf}{σ:St}{H:Hp}{x:aj}{u:Yd}{pos:aY}{Q:Yd->Yf->Prop}(I:Inv X pins σ H s)(hg:Gl X x)(hm:X.mg x=Ye)(hv:gb x=Ya u)(h:Q u s)(hn:x≠ "__name__":=by decide)(hd:(x==("__debug__":aj))=false:=by decide):Y8 (ao X.prog X.w) X.A (aF (.Name x pos) X.env) Q E s:=by obtain⟨mb,h1,h2⟩:=I.mod.blt;exact W0 I.ok.kind hg (Calls.loadGlobal_builtin (by rw[I.ok.glob];exact I.mod.glob.keeps I.bk) hm (by rw[I.ok.blt];exact h1.keeps I.bk) ((h2 x hn).trans hv) h) hd
theorem Jk{x:aj}{v:V}{u:Yd}{pos:aY}(hg:Gl X x)(hm:X.mg x=Ya u)(r:RelV v u)(hd:(x==("__debug__":aj))=false:=by decide):PE X (.Name x pos) (tC v):=λ_ _ _ H _ I h=>vO I hg hm ⟨v,H,I,r,h⟩ hd
theorem X_{x:aj}{v:V}{u:Yd}{pos:aY}(hg:Gl X x)(hm:X.mg x=Ye)(hv:gb x=Ya u)(r:RelV v u)(hn:x≠ "__name__":=by decide)(hd:(x==("__debug__":aj))=false:=by decide):PE X (.Name x pos) (tC v):=λ_ _ _ H _ I h=>zT I hg hm hv ⟨v,H,I,r,h⟩ hn hd
variable {a b:Expr} {ta tb:TE} {pos:aY}
def tB(t:TE):TT:=λσ H Q=>t σ H λx H1=>∃c,x= .bl c/\Q c H1
theorem ZsI{e:Expr}{t:TE}(h:PE X e t)(he:∀whole,isTrue e X.env whole=(do let v ←whole;zm e.pos;tK [v] (truthy v)):=by intro _;rfl):PT X e (tB t):=by intro pins s σ H Q I hw;refine isTrue_plain (aP (h pins s σ H _ I hw) λv s1 ak=>?_) (he _);obtain⟨x,H1,I1,r1,q1⟩:=ak;obtain⟨d,rfl,q⟩:=q1;cases r1;exact CN ⟨H1,I1,q⟩
variable {tA Jl:TT} {rest:List Expr}
def ZvE(t u:TT):TT:=λσ H Q=>t σ H λc H1=>if c=true then u σ H1 Q else Q false H1
def tOr(t u:TT):TT:=λσ H Q=>t σ H λc H1=>if c=true then Q true H1 else u σ H1 Q
def Zwp(t:TT):TT:=λσ H Q=>t σ H λc H1=>Q (!c) H1
theorem Zp9(ha:PT X a tA):PW X (.BoolOp .And [a] pos) tA:=by
 intro wh pins s σ H Q I h;refine isTrue_and (aP (ha pins s σ H Q I h) λc s1 e=>?_);cases c with
 |true=>exact isTrue_and_nil e|false=>exact e
theorem Zr7(ha:PT X a tA):PW X (.BoolOp .Or [a] pos) tA:=by
 intro wh pins s σ H Q I h;refine isTrue_or (aP (ha pins s σ H Q I h) λc s1 e=>?_);cases c with
 |false=>exact isTrue_or_nil e|true=>exact e
theorem Zr4(ha:PT X a tA)(hb:PW X (.BoolOp .And (b::rest) pos) Jl):PW X (.BoolOp .And (a::b::rest) pos) (ZvE tA Jl):=by
 intro wh pins s σ H Q I h;refine isTrue_and (aP (ha pins s σ H _ I h) λc s1 ak=>?_);obtain⟨H1,I1,q1⟩:=ak;cases c with
 |true=>exact hb wh pins s1 σ H1 Q I1 q1|false=>exact⟨H1,I1,q1⟩
theorem ZuE(ha:PT X a tA)(hb:PW X (.BoolOp .Or (b::rest) pos) Jl):PW X (.BoolOp .Or (a::b::rest) pos) (tOr tA Jl):=by
 intro wh pins s σ H Q I h;refine isTrue_or (aP (ha pins s σ H _ I h) λc s1 ak=>?_);obtain⟨H1,I1,q1⟩:=ak;cases c with
 |true=>exact⟨H1,I1,q1⟩|false=>exact hb wh pins s1 σ H1 Q I1 q1
theorem ZrD(ha:PT X a tA):PT X (.UnaryOp .Not a pos) (Zwp tA):=by intro pins s σ H Q I h;exact isTrue_not (aP (ha pins s σ H (λc H1=>Q (!c) H1) I h) λc s' ⟨H',I',q⟩=>⟨H',I',q⟩)
def ZtW(ta tb:TE):TE:=λσ H Q=>ta σ H λx H1=>∃c,x= .bl c/\if c=true then tb σ H1 Q else Q (.bl false) H1
theorem ZrS{op}{t:TE}(h:PE X a t):PE X (.BoolOp op [a] pos) t:=λpins s σ H Q I hw=>BoolOp_one (h pins s σ H Q I hw)
theorem Zrg(ha:PE X a ta)(hb:PE X (.BoolOp .And (b::rest) pos) tb):PE X (.BoolOp .And (a::b::rest) pos) (ZtW ta tb):=by
 intro pins s σ H Q I h;refine BoolOp_and (aP (ha pins s σ H _ I h) λv s1 ak=>?_);obtain⟨x,H1,I1,r1,q1⟩:=ak;obtain⟨c,rfl,q1⟩:=q1;cases r1;refine CN ?_;cases c with
 |true=>exact hb pins s1 σ H1 Q I1 q1|false=>exact⟨.bl false,H1,I1,rfl,q1⟩
def Py(t:TT)(ta tb:TE):TE:=λσ H Q=>t σ H λc H1=>if c=true then ta σ H1 Q else tb σ H1 Q
theorem ZnV{c:Expr}(hc:PT X c tA)(ha:PE X a ta)(hb:PE X b tb):PE X (.IfExp c a b pos) (Py tA ta tb):=by
 intro pins s σ H Q I h;refine wpAny_IfExp (aP (hc pins s σ H _ I h) λd s1 ak=>?_);obtain⟨H1,I1,q1⟩:=ak;cases d with
 |true=>exact ha pins s1 σ H1 Q I1 q1|false=>exact hb pins s1 σ H1 Q I1 q1
end
end L2
namespace L2
open PySem PySem.Spec PyProof.Rows
def bQ(K:Yb)(H:Hp)(a:Yq)(xs:List V):Prop:=
 Rd H a (.lst xs)\/
  ∃(o:aB) (its:Array Yd) (n:Nat),K.lookup a=Ya o/\o.cls= .type "list" /\o.dict=Ye/\o.data= .seq its n/\its.size<=bj/\Vals xs its.toList
def cJ(K:Yb)(H:Hp)(a:Yq)(xs:List V):Prop:=
 Rd H a (.tup xs)\/
  ∃(o:aB) (its:Array Yd) (n:Nat),K.lookup a=Ya o/\(o.cls= .type "tuple" /\o.dict=Ye)/\o.data= .seq its n/\its.size<=bj/\Vals xs its.toList
noncomputable def ZwA:Yd->Option V
 | .none=>Ya .non|.bool b=>Ya (.bl b)|.int i _=>Ya (.int i)|.str x _=>Ya (.str x)
 | .bytes b _=>Ya (.Eb b)|.float b _=>Ya (.flt b)|.ref a=>Ya (.ref a)|.type n=>Ya (.ty n)
 |_=>Ye
theorem RelV.abs{x:V}{u:Yd}(r:RelV x u):ZwA u=Ya x:=by
 cases x with
 |non=>cases r;rfl|bl _=>cases r;rfl|int _=>obtain⟨t,rfl⟩:=r;rfl|str _=>obtain⟨t,rfl⟩:=r;rfl
 |Eb _=>obtain⟨t,rfl⟩:=r;rfl|flt _=>obtain⟨t,rfl⟩:=r;rfl|ref _=>cases r;rfl|ty _=>cases r;rfl
theorem RelV.inj{x y:V}{u:Yd}(r:RelV x u)(q:RelV y u):x=y:=eE (r.abs.symm.trans q.abs)
theorem Vals.inj:∀{xs ys:List V} {us:List Yd},Vals xs us->Vals ys us->xs=ys
 |_,_,_,.nil,.nil=>rfl|_,_,_,.cons r t,.cons r' t'=>by rw[r.inj r',Vals.inj t t']
variable{K:Yb}
section
variable {X:Cx} {pins:List (Yq×aB)} {σ:St} {H:Hp} {s:Yf} {a:Yq} {xs ys:List V}
theorem bQ.of(h:H a=Ya (.lst xs)):bQ K H a xs:=.inl (.inl h)
theorem cJ.of(h:H a=Ya (.tup xs)):cJ K H a xs:=.inl (.inl h)
theorem Inv.list(I:Inv X pins σ H s)(h:bQ X.K H a xs):∃its:List Yd,Vals xs its/\PlainL s.heap a its.toArray/\xs.length<=bj:=by
 rcases h with h|⟨o,its,n,hk,hc,hd,hs,hz,r⟩
 .obtain⟨z,its,n,r,e⟩:=h.ok I.hok;exact⟨its,r,⟨_,n,e,rfl,rfl,rfl⟩,z⟩
 .refine⟨its.toList,r,⟨o,n,I.bO a o hk,hc,hd,by simpa using hs⟩,?_⟩;have e:=r.length;simp only[Ol]at e;exact lC 2 2199576973345 T1 e hz
theorem Inv.tuple(I:Inv X pins σ H s)(h:cJ X.K H a xs):∃its:List Yd,Vals xs its/\IsTup s.heap a its.toArray/\xs.length<=bj:=by
 rcases h with h|⟨o,its,n,hk,hc,hs,hz,r⟩
 .obtain⟨z,its,r,p⟩:=h.ok I.hok;exact⟨its,r,p.tup,z⟩
 .refine⟨its.toList,r,⟨o,I.bO a o hk,hc.1,n,by simpa using hs⟩,?_⟩;have e:=r.length;simp only[Ol]at e;exact lC 2 2199576973345 T1 e hz
theorem Inv.Mm(I:Inv X pins σ H s)(h:bQ X.K H a xs)(h':bQ X.K H a ys):xs=ys:=by
 obtain⟨its,r,⟨o,n,e,_,_,d⟩,_⟩:=I.list h;obtain⟨its',r',⟨o',n',e',_,_,d'⟩,_⟩:=I.list h';rw[e]at e';cases e';rw[d]at d';injection d' with d1 _;have:its=its':=by simpa using congrArg zM d1
 subst this;exact r.inj r'
theorem Inv.Mg(I:Inv X pins σ H s)(h:cJ X.K H a xs)(h':cJ X.K H a ys):xs=ys:=by
 obtain⟨its,r,⟨o,e,_,n,d⟩,_⟩:=I.tuple h;obtain⟨its',r',⟨o',e',_,n',d'⟩,_⟩:=I.tuple h';rw[e]at e';cases e';rw[d]at d';injection d' with d1 _;have:its=its':=by simpa using congrArg zM d1
 subst this;exact r.inj r'
end
noncomputable abbrev Cx.wish(X:Cx)(E:Yd->Yf->Prop):Cx:={X with xe:=E}
noncomputable abbrev Cx.je(X:Cx):Cx:=X.wish λ_ _=>False
theorem Cx.Ok.wish{X:Cx}(ok:X.Ok)(E:Yd->Yf->Prop):(X.wish E).Ok:=⟨ok.mod,ok.kind,ok.glob,ok.blt,ok.above,ok.inj,ok.has,ok.cab,ok.hd,ok.frames,ok.zR,ok.Ed,ok.bs,ok.nW,ok.wQ,ok.wR,ok.jL,ok.qw⟩
theorem Cx.Ok.oU{X:Cx}{E:Yd->Yf->Prop}(ok:(X.wish E).Ok):X.Ok:=⟨ok.mod,ok.kind,ok.glob,ok.blt,ok.above,ok.inj,ok.has,ok.cab,ok.hd,ok.frames,ok.zR,ok.Ed,ok.bs,ok.nW,ok.wQ,ok.wR,ok.jL,ok.qw⟩
variable{e:Expr}
section
variable {X:Cx} {pins:List (Yq×aB)} {σ:St} {H:Hp} {s:Yf} {E:Yd->Yf->Prop}
theorem Inv.wish(I:Inv X pins σ H s)(E:Yd->Yf->Prop):Inv (X.wish E) pins σ H s:=⟨I.ok.wish E,I.os,I.bare,I.base,I.loc,I.cell,I.free,I.jK,I.pin,I.hok,I.len⟩
theorem Inv.oU(I:Inv (X.wish E) pins σ H s):Inv X pins σ H s:=⟨I.ok.oU,I.os,I.bare,I.base,I.loc,I.cell,I.free,I.jK,I.pin,I.hok,I.len⟩
theorem SP.oU{D:Ends}{f:Flow}{s':Yf}(h:SP (X.wish E) pins D f s'):SP X pins D f s':=by
 cases f with
 |next=>obtain⟨σ',H',I,q⟩:=h;exact⟨σ',H',I.oU,q⟩|brk=>obtain⟨σ',H',I,q⟩:=h;exact⟨σ',H',I.oU,q⟩|cont=>obtain⟨σ',H',I,q⟩:=h;exact⟨σ',H',I.oU,q⟩|ret u=>obtain⟨v,σ',H',I,r,q⟩:=h;exact⟨v,σ',H',I.oU,r,q⟩
theorem PT.je{t:TT}(h:PT X.je e t):PT X e t:=λpins s σ H Q I hw=>eO (h pins s σ H Q (I.wish _) hw) (λ_ _ ⟨H',I',q⟩=>⟨H',I'.oU,q⟩) λ_ _ z=>dH z
theorem jd.je{st:List Yd2}{t:TS}(h:jd X.je st t):jd X st t:=λpins s σ H D I hw=>eO (h pins s σ H D (I.wish _) hw) (λ_ _ q=>q.oU) λ_ _ z=>dH z
end
section
variable {X:Cx} {st:Yd2} {rest:List Yd2} {t u:TS} {e:Expr} {te:TE} {pos:aY}
def Zuc:TS:=λD σ H=>D.nx σ H
def Pz(t u:TS):TS:=λD σ H=>t {D with nx:=u D} σ H
theorem Zpz:jd X [] Zuc:=λ_ _ σ H _ I h=>G9 ⟨σ,H,I,h⟩
theorem Jm(h1:PS X st t)(h2:jd X rest u):jd X (st::rest) (Pz t u):=by
 intro pins s σ H D I h;refine Vf (aP (h1 pins s σ H {D with nx:=u D} I h) λf s1 q=>?_);cases f with
 |next=>obtain⟨σ',H',I',q⟩:=q;exact h2 pins s1 σ' H' D I' q|ret v=>exact q|brk=>exact q
 |cont=>exact q
theorem Jo(h1:PS X st t):jd X [st] t:=by
 intro pins s σ H D I h;refine Vf (aP (h1 pins s σ H D I h) λf s1 q=>?_);cases f with
 |next=>exact G9 q|ret v=>exact q|brk=>exact q|cont=>exact q
theorem Inv.quiet{pins:List (Yq×aB)}{σ:St}{H:Hp}{s:Yf}(I:Inv X pins σ H s):interactive X.env=false:=by simp[interactive,I.ok.kind]
def PB(te:TE):TS:=λD σ H=>te σ H λ_ H1=>D.nx σ H1
theorem Jp(he:PE X e te)(hs:xj e Ye pos.line X.env=pure false:=by rfl):PS X (.Expr e pos) (PB te):=by intro pins s σ H D I h;exact wpAny_Expr_any (aP (he pins s σ H _ I h) λv s1 ⟨x,H1,I1,r1,q1⟩=>⟨σ,H1,I1,q1⟩) I.quiet hs
def Zv6(te:TE):TS:=λD σ H=>te σ H D.rt
theorem ZrG(he:PE X e te):PS X (.Return (Ya e) pos) (Zv6 te):=by intro pins s σ H D I h;exact wpAny_Return_some (aP (he pins s σ H _ I h) λv s1 ⟨x,H1,I1,r1,q1⟩=>⟨x,σ,H1,I1,r1,q1⟩)
def Zwr(c:TT)(t u:TS):TS:=λD σ H=>c σ H λb H1=>if b=true then t D σ H1 else u D σ H1
theorem YB{c:Expr}{a b:List Yd2}{tc:TT}(hc:PT X c tc)(ha:jd X a t)(hb:jd X b u):PS X (.If c a b pos) (Zwr tc t u):=by
 intro pins s σ H D I h;refine wpAny_If (aP (hc pins s σ H _ I h) λd s1 ak=>?_);obtain⟨H1,I1,q1⟩:=ak;cases d with
 |true=>exact ha pins s1 σ H1 D I1 q1|false=>exact hb pins s1 σ H1 D I1 q1
end
noncomputable abbrev TG:=V->St->Hp->(St->Hp->Prop)->Prop
noncomputable abbrev ud:=List V->St->Hp->(St->Hp->Prop)->Prop
def PG(X:Cx)(target:Expr)(t:TG):Prop:=
 ∀(pins:List (Yq×aB)) (s:Yf) (σ:St) (H:Hp) (v:V) (u:Yd) (Q:St->Hp->Prop),Inv X pins σ H s->RelV v u->t v σ H Q ->
  Y8 (ao X.prog X.w) X.A (tL target X.env u) (λ_ s'=>∃σ' H',Inv X pins σ' H' s'/\Q σ' H') X.xe s
def rG(X:Cx)(ts:List Expr)(t:ud):Prop:=
 ∀(pins:List (Yq×aB)) (s:Yf) (σ:St) (H:Hp) (vs:List V) (us:List Yd) (Q:St->Hp->Prop),Inv X pins σ H s->Vals vs us->t vs σ H Q ->
  Y8 (ao X.prog X.w) X.A (assignInOrder ((qe ts X.env).map (·.2)) us) (λ_ s'=>∃σ' H',Inv X pins σ' H' s'/\Q σ' H') X.xe s
noncomputable abbrev PJ:=V->V->V->Hp->(Hp->Prop)->Prop
def YC(X:Cx)(t:PJ):Prop:=
 ∀(pins:List (Yq×aB)) (s:Yf) (σ:St) (H:Hp) (o i v:V) (ov iv u:Yd) (Q:Hp->Prop),Inv X pins σ H s->RelV o ov->RelV i iv->RelV v u->t o i v H Q ->
  Y8 (ao X.prog X.w) X.A (setItem ov iv u) (λ_ s'=>∃H',Inv X pins σ H' s'/\Q H') X.xe s
variable{tg:Expr}
section
variable {X:Cx} {pos:aY}
def YD(i:Nat):TG:=λv σ H Q=>Q (σ.set i (Ya v)) H
theorem YF{i:Nat}{x:aj}(hN:X.N.Nodup)(hi:X.N[i]?=Ya x)(hx:Loc X.env.scope x)(hf:X.fn x=true\/X.env.scope.names.lookup x=Ya .local:=by first|exact .inl rfl|exact .inr rfl|assumption):PG X (.Name x pos) (YD i):=by intro pins s σ H v u Q I r h;exact wpAny_assign_Name (Px I hN hi hx r (λs' I'=>⟨_,H,I',h⟩) hf)
def ZvX:ud:=λvs σ H Q=>vs=[]/\Q σ H
def Zur(t:TG)(u:ud):ud:=λvs σ H Q=>∃v r,vs=v::r/\t v σ H λσ' H'=>u r σ' H' Q
theorem Zqh:rG X [] ZvX:=by intro pins s σ H vs us Q I r h;obtain⟨e,h⟩:=h;subst e;cases r;exact assignInOrder_nil ⟨σ,H,I,h⟩
theorem ZoY{es:List Expr}{t:TG}{u:ud}(h1:PG X e t)(h2:rG X es u)(hs:(qe (e::es) X.env).map (·.2)=tL e X.env::(qe es X.env).map (·.2):=by rfl):rG X (e::es) (Zur t u):=by
 intro pins s σ H vs us Q I r h;obtain⟨v,vr,e1,h⟩:=h;subst e1;cases r with
 |cons r rr=>rw[hs];refine assignInOrder_cons (aP (h1 pins s σ H _ _ _ I r h) λ_ s1 ak=>?_);obtain⟨σ1,H1,I1,q1⟩:=ak;exact h2 pins s1 σ1 H1 _ _ Q I1 rr q1
def Zwi(K:Yb)(n:Nat)(t:ud):TG:=λv σ H Q=>∃a xs,v= .ref a/\cJ K H a xs/\xs.length=n/\t xs σ H Q
theorem ZsC{es:List Expr}{k:Nat}{t:ud}{n:Nat}(hc:X.calm=true)(h:rG X es t)(hn:(qe es X.env).length=n:=by rfl)(hst:(qe es X.env).findIdx? (·.1)=Ye:=by rfl):PG X (.Tuple es k pos) (Zwi X.K n t):=by intro pins s σ H v u Q I r hw;obtain⟨a,xs,e1,hq,hl,hw⟩:=hw;subst e1;cases r;obtain⟨its,rv,ht,hz⟩:=I.tuple hq;refine assign_Tuple_tuple (I.ok.hd hc) ht (by simp[hn,←hl,rv.length]) hst λh' hx=>?_;have I1:Inv X pins σ H {s with heap:=h'}:=I.kept (t':=s.toks) λb o e=>hx b o (eQ (Yx e)) e;exact h pins _ σ H xs _ Q I1 (by simpa using rv) hw
def Zwm(to ti:TE)(t:PJ):TG:=λv σ H Q=>to σ H λo H1=>ti σ H1 λi H2=>t o i v H2 λH3=>Q σ H3
theorem Zra{o i:Expr}{to ti:TE}{t:PJ}(ho:PE X o to)(hi:PE X i ti)(hs:YC X t)(ha:∀v,tL (.Subscript o i pos) X.env v=(do
   let ov ←tK [v] (aF o X.env)
   let iv ←tK [v,ov] (aF i X.env)
   zm pos
   tK [v,ov,iv] (setItem ov iv v)
   release [v,ov,iv] []):=by intro _;rfl):PG X (.Subscript o i pos) (Zwm to ti t):=by
 intro pins s σ H v u Q I r h;rw[ha];refine Yc (jb (aP (ho pins s σ H _ I h) λov s1 ak=>?_));obtain⟨x,H1,I1,r1,q1⟩:=ak;refine Yc (jb (aP (hi pins s1 σ H1 _ I1 q1) λiv s2 ak=>?_));obtain⟨y,H2,I2,r2,q2⟩:=ak;refine Yc (vf (Yc (jb (aP (hs pins s2 σ H2 x y v ov iv u _ I2 r1 r2 r q2) λ_ s3 ak=>?_))));obtain⟨H3,I3,q3⟩:=ak;exact wpAny_release ⟨σ,H3,I3,q3⟩
def YG(te:TE)(g:TG):TS:=λD σ H=>te σ H λx H1=>g x σ H1 D.nx
theorem Zr5{te:TE}{g:TG}(he:PE X e te)(hg:PG X tg g)(hs:swapsWithSole [tg] e pos.line X.env=pure false:=by rfl)(hw:swappedStores [tg] e X.env=pure Ye:=by rfl)(h1:(qe [tg] X.env).map (·.2)=[tL tg X.env]:=by rfl):PS X (.Assign [tg] e pos) (YG te g):=by intro pins s σ H D I h;refine wpAny_Assign_stores (aP (he pins s σ H _ I h) λv s1 ak=>?_) hs hw;obtain⟨x,H1,I1,r1,q1⟩:=ak;rw[h1];exact aP (hg pins s1 σ H1 x v _ I1 r1 q1) λ_ s2 q=>q
theorem Zs0{i:Nat}{x:aj}{te:TE}{pos':aY}(hN:X.N.Nodup)(hi:X.N[i]?=Ya x)(hx:Loc X.env.scope x)(he:PE X e te)(hs:xj e (Ya (.Name x pos')) pos.line X.env=pure false:=by rfl)(hf:X.fn x=true\/X.env.scope.names.lookup x=Ya .local:=by first|exact .inl rfl|exact .inr rfl|assumption):
  PS X (.Assign [.Name x pos'] e pos) (YG te (YD i)):=by
 intro pins s σ H D I h;refine wpAny_Assign_Name (aP (he pins s σ H _ I h) λv s1 ak=>?_) hs;obtain⟨y,H1,I1,r1,q1⟩:=ak;exact Px I1 hN hi hx r1 (λs2 I2=>⟨_,H1,I2,q1⟩) hf
end
structure It where
 go:Nat->Hp->Prop
 Jq:Nat->Hp->V->Hp->Prop
 stop:Nat->Hp->Prop
def jf(X:Cx)(pins:List (Yq×aB))(H:Hp)(b:Yq):Prop:=H b=Ye/\b≠X.env.locals/\b∉X.fs/\(b∈X.ex\/X.s₀.heap.objs.size<=b)/\(∀x c,X.env.cells.lookup x=Ya c->c≠b)/\∀p∈X.pn++pins,p.1≠b
theorem Inv.wU{X:Cx}{pins:List (Yq×aB)}{σ:St}{H H':Hp}{s:Yf}{b:Yq}(I:Inv X pins σ H s)(hb:s.heap.objs.size<=b)(hn:H' b=Ye):jf X pins H' b:=by
 refine⟨hn,Dr (Yz I.lt hb),I.Adx hb,.inr (Ym I.sz hb),λx c e z=>?_,λp hp z=>?_⟩
 .obtain⟨v,q⟩:=I.cell x c e;exact absurd (Yz q.lt (by rw[z];exact hb)) (tW _)
 .exact absurd (Yz (Yx (I.pin p hp).1) (by rw[z];exact hb)) (tW _)
structure Turn(P:Y3)(w:aO)(K:Yb)(tg:Expr)(J:It)(fp:List Yq)(it:Yq)(tn:Nat->aq->Prop):Prop where
 mem:it∈fp
 obj:∀i h,tn i h->∀b∈fp,∃o,h.get? b=Ya o/\∀v,o.data≠ .cell v
 keep:∀i h h',tn i h->(∀b∈fp,∀o,h.get? b=Ya o->h'.get? b=Ya o)->tn i h'
 item:∀(X:Cx),X.prog=P->X.w=w->X.K=K->X.calm=true->∀(i:Nat) (pins:List (Yq×aB)) (s:Yf) (σ:St) (H:Hp) (E:Yd->Yf->Prop),Inv X pins σ H s->(∀b∈fp,jf X pins H b)->tn i s.heap->J.go i H ->
  Y8 (ao P w) X.A (qi (.ref it)) (λr s1=>∃u,r=Ya u/\
   Y8 (ao P w) X.A (Yes tg (.ref it) u) (λ_ s2=>∃x H',Inv X pins σ H' s2/\RelV x u/\J.Jq i H x H'/\tn (i+1) s2.heap/\∀b∈fp,H' b=Ye) E s1) E s
 done:∀(X:Cx),X.prog=P->X.w=w->X.K=K->X.calm=true->∀(i:Nat) (pins:List (Yq×aB)) (s:Yf) (σ:St) (H:Hp) (E:Yd->Yf->Prop),Inv X pins σ H s->(∀b∈fp,jf X pins H b)->tn i s.heap->J.stop i H ->
  Y8 (ao P w) X.A (qi (.ref it)) (λr s1=>r=Ye/\Inv X pins σ H s1) E s
 self:∀(A:bB) (i:Nat) (s:Yf) (Q:Yd->Yf->Prop) (E:Yd->Yf->Prop),tn i s.heap->Q (.ref it) s->Y8 (ao P w) A (zq (.ref it)) Q E s
noncomputable abbrev TI:=St->Hp->(It->Hp->Prop)->Prop
def PIE(X:Cx)(pins:List (Yq×aB))(σ:St)(tg:Expr)(R:It->Hp->Prop)(itv:Yd)(s2:Yf):Prop:=∃(it:Yq) (fp:List Yq) (tn:Nat->aq->Prop) (J:It) (H':Hp),itv= .ref it/\Inv X pins σ H' s2/\Turn X.prog X.w X.K tg J fp it tn/\tn 0 s2.heap/\(∀b∈fp,jf X pins H' b)/\R J H'
def PI(X:Cx)(tg iter:Expr)(wi:TI):Prop:=
 ∀(pins:List (Yq×aB)) (s:Yf) (σ:St) (H:Hp) (R:It->Hp->Prop),Inv X pins σ H s->wi σ H R ->
  Y8 (ao X.prog X.w) X.A (aF iter X.env) (λv s1=>Y8 (ao X.prog X.w) X.A (zq v) (PIE X pins σ tg R) X.xe s1) X.xe s
theorem Jr{M:Model}{A:bB}{E:Yd->Yf->Prop}{s:Yf}{it:Yq}{u:Yd}{o:aB}{n:String}{vs:Array Yd}{Q:Unit->Yf->Prop}(ho:s.heap.get? it=Ya o)(hc:o.cls= .type n)(hd:o.data= .fields vs)(hn:["enumerate","zip","dict_itemiterator","dict_reverseitemiterator","odict_iterator","itertools.zip_longest","itertools.pairwise"].contains n=false)(hQ:Q () s):Y8 M A (Yes tg (.ref it) u) Q E s:=by
 unfold Yes;cases tg<;>first
  |exact Yr hQ
  | (cases u<;>first
    |exact Yr hQ
    | (refine Yc (wpAny_load ho ?_)
       rw[hc,hd];show Y8 M A (if(["enumerate","zip","dict_itemiterator","dict_reverseitemiterator","odict_iterator","itertools.zip_longest","itertools.pairwise"].contains n&&vs[0]?==Ya (jP _))=true then _ else _) Q E s;rw[if_neg (by intro h;rw[hn,N8]at h;cases h)];exact Yr hQ))
noncomputable def YH(K:Yb)(a:Yq):It:=⟨λi H=>∃xs x,bQ K H a xs/\xs[i]?=Ya x,λi H x H'=>H'=H/\∀xs,bQ K H a xs->xs[i]?=Ya x,λi H=>∃xs,bQ K H a xs/\xs.length<=i⟩
noncomputable def YJ(K:Yb)(a:Yq):It:=⟨λi H=>∃xs x,cJ K H a xs/\xs[i]?=Ya x,λi H x H'=>H'=H/\∀xs,cJ K H a xs->xs[i]?=Ya x,λi H=>∃xs,cJ K H a xs/\xs.length<=i⟩
noncomputable def Js(lo:Int)(n:Nat):It:=⟨λi _=>i<n,λi H x H'=>H'=H/\x= .int (lo+i),λi _=>n<=i⟩
theorem ZmE{P:Y3}{w:aO}(a it:Yq):Turn P w K tg (YH K a) [it] it (λi h=>h.IsListIter it a i)where
 mem:=by simp
 obj:=λi h st b hb=>by
  have e:b=it:=by simpa using hb
  subst e;obtain⟨o,e,c,d⟩:=st;exact⟨o,e,λv z=>by rw[d]at z;cases z⟩
 keep:=λi h h' st k=>st.at λo e=>k it (by simp) o e
 item:=by intro X hP hw hK hc i pins s σ H E I hf st hg;subst hP hw hK;obtain⟨xs,x,hq,hx⟩:=hg;obtain⟨its,rv,p,hz⟩:=I.list hq;obtain⟨u,hu,ru⟩:=rv.get hx;obtain⟨f0,f1,f2,f3,f4,f5⟩:=hf it (by simp);refine wpAny_pyNext_list_item st p.isList (x:=u) (by simpa using hu) λh' st' sb=>?_;have I1:Inv X pins σ H {s with heap:=h'}:=I.turned (t':=s.toks) (λb o hb e=>(sb.2 b hb).trans e) f0 f1 f3 f4 f5;obtain⟨o,e,c,d⟩:=id st';exact⟨u,rfl,Jr (s:={s with heap:=h'}) e c d (by decide) ⟨x,H,I1,ru,⟨rfl,λys hy=>by rw[I.Mm hy hq];exact hx⟩,st',λb hb=>(hf b hb).1⟩⟩
 done:=by intro X hP hw hK hc i pins s σ H E I hf st hg;subst hP hw hK;obtain⟨xs,hq,hx⟩:=hg;obtain⟨its,rv,p,hz⟩:=I.list hq;obtain⟨f0,f1,f2,f3,f4,f5⟩:=hf it (by simp);have hl:=rv.length;exact wpAny_pyNext_list_end (I.ok.hd hc) st p.isList (by simp;exact lC 2 2268279672881 T1 hl hx) λh' eb=>⟨rfl,I.turned (t':=s.toks) (λb o hb e=>eb b o hb e) f0 f1 f3 f4 f5⟩
 self:=λ_ _ _ _ _ st h=>wpAny_pyIter_listiter st h
theorem ZkW{P:Y3}{w:aO}(a it:Yq):Turn P w K tg (YJ K a) [it] it (λi h=>h.IsTupleIter it a i)where
 mem:=by simp
 obj:=λi h st b hb=>by
  have e:b=it:=by simpa using hb
  subst e;obtain⟨o,e,c,d⟩:=st;exact⟨o,e,λv z=>by rw[d]at z;cases z⟩
 keep:=λi h h' st k=>st.at λo e=>k it (by simp) o e
 item:=by intro X hP hw hK hc i pins s σ H E I hf st hg;subst hP hw hK;obtain⟨xs,x,hq,hx⟩:=hg;obtain⟨its,rv,p,hz⟩:=I.tuple hq;obtain⟨u,hu,ru⟩:=rv.get hx;obtain⟨f0,f1,f2,f3,f4,f5⟩:=hf it (by simp);refine wpAny_pyNext_tuple_item st (show s.heap.IsTuple a its.toArray from p) (x:=u) (by simpa using hu) λh' st' sb=>?_;have I1:Inv X pins σ H {s with heap:=h'}:=I.turned (t':=s.toks) (λb o hb e=>(sb.2 b hb).trans e) f0 f1 f3 f4 f5;obtain⟨o,e,c,d⟩:=id st';exact⟨u,rfl,Jr (s:={s with heap:=h'}) e c d (by decide) ⟨x,H,I1,ru,⟨rfl,λys hy=>by rw[I.Mg hy hq];exact hx⟩,st',λb hb=>(hf b hb).1⟩⟩
 done:=by intro X hP hw hK hc i pins s σ H E I hf st hg;subst hP hw hK;obtain⟨xs,hq,hx⟩:=hg;obtain⟨its,rv,p,hz⟩:=I.tuple hq;obtain⟨f0,f1,f2,f3,f4,f5⟩:=hf it (by simp);have hl:=rv.length;exact wpAny_pyNext_tuple_end (I.ok.hd hc) st (show s.heap.IsTuple a its.toArray from p) (by simp;exact lC 2 2268279672881 T1 hl hx) λh' eb=>⟨rfl,I.turned (t':=s.toks) (λb o hb e=>eb b o hb e) f0 f1 f3 f4 f5⟩
 self:=λ_ _ _ _ _ st h=>wpAny_pyIter_tupleiter st h
theorem ZkB{P:Y3}{w:aO}(it:Yq)(lo:Int)(n:Nat):Turn P w K tg (Js lo n) [it] it (λi h=>IsRangeIter h it (lo+(i:Nat)*1) ((n:Int)-(i:Nat)) 1)where
 mem:=by simp
 obj:=λi h st b hb=>by
  have e:b=it:=by simpa using hb
  subst e;exact⟨_,st,λv z=>by have z':Data.fields _=Data.cell v:=z;cases z'⟩
 keep:=λi h h' st k=>k it (by simp) _ st
 item:=by intro X hP hw hK hc i pins s σ H E I hf st hg;subst hP hw hK;obtain⟨f0,f1,f2,f3,f4,f5⟩:=hf it (by simp);have W:=Walks.range (prog:=X.prog) (w:=X.w) (I.ok.hd hc) it lo 1 n;refine W.item i s _ _ hg st λv h' tk hv st' kk=>?_;obtain⟨t,rfl⟩:=hv;have I1:Inv X pins σ H {s with heap:=h',toks:=tk}:=I.turned (λb o hb e=>kk b o (by simpa using hb) e) f0 f1 f3 f4 f5;refine⟨_,rfl,Jr (s:={s with heap:=h',toks:=tk}) (n:="range_iterator") st' rfl rfl (by decide) ⟨.int (lo+i),H,I1,⟨t,?_⟩,⟨rfl,rfl⟩,st',λb hb=>(hf b hb).1⟩⟩;rw[Int.mul_one]
 done:=by intro X hP hw hK hc i pins s σ H E I hf st hg;subst hP hw hK;obtain⟨f0,f1,f2,f3,f4,f5⟩:=hf it (by simp);exact wpAny_pyNext_range_end (I.ok.hd hc) st (by have:n<=i:=hg;exact iN [_,_] [] 1 0xe1808f81001 T1 this) λh' eb=>⟨rfl,I.turned (t':=s.toks) (λb o hb e=>eb b o hb e) f0 f1 f3 f4 f5⟩
 self:=λ_ _ _ _ _ st h=>wpAny_pyIter_rangeiter st h
end L2
namespace L2
open PySem PySem.Spec PyProof.Rows
variable{fp:List Yq}{pins:List (Yq×aB)}
section
variable {X:Cx} {tg:Expr}
def Zup(K:Yb)(tl:TE):TI:=λσ H R=>tl σ H λx H1=>∃a,x= .ref a/\(∃xs,bQ K H1 a xs)/\R (YH K a) H1
def Zwy(K:Yb)(tl:TE):TI:=λσ H R=>tl σ H λx H1=>∃a,x= .ref a/\(∃xs,cJ K H1 a xs)/\R (YJ K a) H1
theorem ZpZ{l:Expr}{tl:TE}(hl:PE X l tl):PI X tg l (Zup X.K tl):=by
 intro pins s σ H R I h;refine aP (hl pins s σ H _ I h) λv s1 ak=>?_;obtain⟨x,H1,I1,r1,q1⟩:=ak;obtain⟨a,e,⟨xs,hq⟩,q⟩:=q1;subst e;cases r1;obtain⟨its,rv,p,hz⟩:=I1.list hq;refine w5 p.isList ?_;refine⟨s1.heap.objs.size,[s1.heap.objs.size],_,_,H1,rfl,I1.kept (t':=s1.toks) λb o e=>Yh _ e,ZmE a _,⟨_,Yw _ rfl,rfl,rfl⟩,λb hb=>?_,q⟩;have e:b=s1.heap.objs.size:=by simpa using hb
 subst e;exact I1.wU (Yt _) (I1.hok.fresh (Yt _))
theorem ZrX{l:Expr}{tl:TE}(hl:PE X l tl):PI X tg l (Zwy X.K tl):=by
 intro pins s σ H R I h;refine aP (hl pins s σ H _ I h) λv s1 ak=>?_;obtain⟨x,H1,I1,r1,q1⟩:=ak;obtain⟨a,e,⟨xs,hq⟩,q⟩:=q1;subst e;cases r1;obtain⟨its,rv,p,hz⟩:=I1.tuple hq;refine Va (show s1.heap.IsTuple a its.toArray from p) ?_;refine⟨s1.heap.objs.size,[s1.heap.objs.size],_,_,H1,rfl,I1.kept (t':=s1.toks) λb o e=>Yh _ e,ZkW a _,⟨_,Yw _ rfl,rfl,rfl⟩,λb hb=>?_,q⟩;have e:b=s1.heap.objs.size:=by simpa using hb
 subst e;exact I1.wU (Yt _) (I1.hok.fresh (Yt _))
theorem Znb{σ:St}{H:Hp}{s:Yf}{R:It->Hp->Prop}{E:Yd->Yf->Prop}{lo hi:Int}{t u v:fj}{tk:Nat}(I:Inv X pins σ H s)(h1:-(2^62)<=lo)(h2:lo<2^62)(h3:-(2^62)<=hi)(h4:hi<2^62)(q:R (Js lo (hi-lo).toNat) H):Y8 (ao X.prog X.w) X.A (zq (.ref s.heap.objs.size)) (PIE X pins σ tg R) E {s with heap:=s.heap.push {cls:=.type "range",data:=.fields #[.int lo t,.int hi u,.int 1 v]},toks:=tk}:=by
 refine wpAny_pyIter_range (IsRange.new ..) (small_one h1 h2 h3 h4) ?_;have I1:Inv X pins σ H {s with heap:=s.heap.push {cls:=.type "range",data:=.fields #[.int lo t,.int hi u,.int 1 v]},toks:=tk}:=I.kept λb o e=>Yh _ e;refine⟨(s.heap.push {cls:=.type "range",data:=.fields #[.int lo t,.int hi u,.int 1 v]}).objs.size,[(s.heap.push {cls:=.type "range",data:=.fields #[.int lo t,.int hi u,.int 1 v]}).objs.size],_,_,H,rfl,
  I1.kept (t':=tk) λb o e=>Yh _ e,ZkB _ lo (hi-lo).toNat,?_,λb hb=>?_,q⟩
 .have e1:lo+((0:Nat):Int)*1=lo:=by simp
  have e2:(((hi-lo).toNat:Nat):Int)-((0:Nat):Int)=Builtin.Range.rangeSize lo hi 1:=by rw[rangeSize_one];split <;>omega
  show IsRangeIter _ _ (lo+((0:Nat):Int)*1) ((((hi-lo).toNat:Nat):Int)-((0:Nat):Int)) 1;rw[e1,e2];exact Yw _ rfl
 .have e:b=(s.heap.push {cls:=.type "range",data:=.fields #[.int lo t,.int hi u,.int 1 v]}).objs.size:=by simpa using hb
  subst e;exact I1.wU (Yt _) (I1.hok.fresh (Yt _))
def ZtM(ta:TA):TI:=λσ H R=>ta σ H λvs H1=>∃j:Int,vs=[.int j]/\ -(2^62)<=j/\j<2^62/\R (Js 0 j.toNat) H1
theorem Zm2{a:Expr}{ta:TA}{p pos:aY}(hg:Gl X "range")(hm:X.mg "range" =Ye)(ha:PA X [a] ta)(hs:Yp [a] X.env=[(false,aF a X.env)]:=by rfl):PI X tg (.Call (.Name "range" p) [a] [] pos) (ZtM ta):=by
 intro pins s σ H R I h;refine Call_ (zT I hg hm boot_range (Og (aP (ha pos pins s σ H _ I h) λus s1 ak=>?_) hs rfl));obtain⟨vs,H1,I1,r1,q1⟩:=ak;obtain⟨j,e,q1,q2,q⟩:=q1;subst e;cases r1 with
 |cons r rr=>
  cases rr
  obtain⟨t,rfl⟩:=r;exact call_range_1 (Znb I1 (by omega) (by omega) q1 q2 (by simpa using q))
def Zwk(wi:TI)(g:TG)(tb:TS):TS:=λD σ H=>wi σ H λJ H1=>∃W:Nat->Nat->St->Hp->Prop,(∃m,W 0 m σ H1)/\∀i m σ H,W i m σ H ->
 (J.stop i H/\D.nx σ H)\/(J.go i H/\∃N:St->Hp->Prop,(∀σ' H',N σ' H'->∃m',m'<m/\W (i+1) m' σ' H')/\∀x H',J.Jq i H x H'->g x σ H' λσ2 H2=>tb {D with nx:=N,ct:=N,bk:=D.nx} σ2 H2)
noncomputable def vP(fp:List Yq)(h:aq):List (Yq×aB):=fp.filterMap λb=>(h.get? b).map λo=>(b,o)
theorem Jt{h:aq}{b:Yq}{o:aB}(hb:b∈fp)(e:h.get? b=Ya o):(b,o)∈vP fp h:=Hz.mpr ⟨b,hb,by rw[e];rfl⟩
theorem Zmy{h:aq}{p:Yq×aB}(hp:p∈vP fp h):p.1∈fp/\h.get? p.1=Ya p.2:=by
 obtain⟨b,hb,e⟩:=Hz.mp hp;cases q:h.get? b with
 |none=>rw[q]at e;cases e|some o=>rw[q]at e;have e':(b,o)=p:=eE e;subst e';exact⟨hb,q⟩
theorem Inv.pinned{σ:St}{H:Hp}{s:Yf}(I:Inv X pins σ H s)(hf:∀b∈fp,jf X pins H b)(ho:∀b∈fp,∃o,s.heap.get? b=Ya o/\∀v,o.data≠ .cell v):Inv X (pins++vP fp s.heap) σ H s:=I.T4 λp hp=>(gk.mp hp).elim (λz=>I.pin p (o4 _ z)) λz=>by obtain⟨hb,e⟩:=Zmy z;obtain⟨f0,f1,f2,_⟩:=hf p.1 hb;obtain⟨o,e',d⟩:=ho p.1 hb;rw[e]at e';cases e';exact⟨e,f0,f1,f2,d⟩
theorem Inv.Gw{pl:List (Yq×aB)}{σ:St}{H:Hp}{s:Yf}(I:Inv X (pins++pl) σ H s):Inv X pins σ H s:=I.T4 λp hp=>I.pin p (o4 _ (xH _ hp))
theorem Ju{iter:Expr}{body:List Yd2}{wi:TI}{g:TG}{tb:TS}{pos:aY}(hp:Nm (ao X.prog X.w) X.A X.env X.xe)(hc:X.calm=true)(hi:PI X tg iter wi)(hg:PG X tg g)(hb:jd X body tb)(hs:∀x,za iter X.env x=pure x:=by intro _;rfl):PS X (.For tg iter body [] pos) (Zwk wi g tb):=by
 intro pins s σ H D I h;refine wpAny_For (aP (hi pins s σ H _ I h) λv s1 h1=>aP h1 λitv s2 h2=>?_) hs;obtain⟨it,fp,tn,J,H2,e,I2,T,st2,f2,W,⟨m0,w0⟩,turn⟩:=h2;subst e;have stat:∀{H':Hp},(∀b∈fp,H' b=Ye)->∀b∈fp,jf X pins H' b:=λhn b hb=>⟨hn b hb,(f2 b hb).2⟩;refine codeAny_forLoop_any (λn s'=>∃i σ' H',Inv X pins σ' H' s'/\tn i s'.heap/\(∀b∈fp,H' b=Ye)/\W i n σ' H') ?_ m0 ⟨0,σ,H2,I2,st2,λb hb=>(f2 b hb).1,w0⟩;rintro n s3 ⟨i,σ3,H3,I3,st3,YK,w3⟩;rcases turn i n σ3 H3 w3 with⟨stop,qn⟩|⟨go,N,hN,step⟩
 .refine CQ hp (aP (T.done X rfl rfl rfl hc i pins s3 σ3 H3 X.xe I3 (stat YK) st3 stop) λr s4 ⟨hr,I4⟩=>?_);subst hr;exact G9 ⟨σ3,H3,I4,qn⟩
 .refine CQ hp (aP (T.item X rfl rfl rfl hc i pins s3 σ3 H3 X.xe I3 (stat YK) st3 go) λr s4 ⟨u,hr,h4⟩=>?_);subst hr;refine CQ hp (aP h4 λ_ s5 ak=>?_);obtain⟨x,H5,I5,r5,y5,pq,uf⟩:=ak;have PL:=I5.pinned (stat uf) (T.obj _ _ pq);refine CQ hp (aP (hg _ s5 σ3 H5 x u _ PL r5 (step x H5 y5)) λ_ s6 ak=>?_);obtain⟨σ6,H6,I6,q6⟩:=ak;refine CQ hp (aP (hb _ s6 σ6 H6 _ I6 q6) λf s7 q7=>?_);have again:∀{σ7:St} {H7:Hp},Inv X (pins++vP fp s5.heap) σ7 H7 s7->N σ7 H7->∃m,m<n/\∃i σ' H',Inv X pins σ' H' s7/\tn i s7.heap/\(∀b∈fp,H' b=Ye)/\W i m σ' H':=λ{σ7 H7} I7 n7=>by
   obtain⟨m',hm,w7⟩:=hN σ7 H7 n7;refine⟨m',hm,i+1,σ7,H7,I7.Gw,T.keep _ _ _ pq λb hb o e=>(I7.pin (b,o) (o4 _ (o4 _ (Jt hb e)))).1,λb hb=>?_,w7⟩;obtain⟨o,e,d⟩:=T.obj _ _ pq b hb;exact(I7.pin (b,o) (o4 _ (o4 _ (Jt hb e)))).2.1
  cases f with
  |next=>obtain⟨σ7,H7,I7,n7⟩:=q7;exact again I7 n7|cont=>obtain⟨σ7,H7,I7,n7⟩:=q7;exact again I7 n7|brk=>obtain⟨σ7,H7,I7,q7⟩:=q7;exact⟨σ7,H7,I7.Gw,q7⟩|ret v=>obtain⟨x7,σ7,H7,I7,r7,q7⟩:=q7;exact⟨x7,σ7,H7,I7.Gw,r7,q7⟩
end
end L2
namespace L2
open PySem PySem.Spec PyProof.Rows
noncomputable abbrev R2:=V->V->Hp->VK->Prop
def bf(X:Cx)(f:Yd->Yd->nG Yd)(r:R2):Prop:=
 ∀(pins:List (Yq×aB)) (s:Yf) (σ:St) (H:Hp) (x y:V) (v u:Yd) (Q:VK),Inv X pins σ H s->RelV x v->RelV y u->r x y H Q ->
  Y8 (ao X.prog X.w) X.A (f v u) (EP X pins σ Q) X.xe s
def ug(X:Cx)(f:Yd->nG Yd)(r:V->Hp->VK->Prop):Prop:=
 ∀(pins:List (Yq×aB)) (s:Yf) (σ:St) (H:Hp) (x:V) (v:Yd) (Q:VK),Inv X pins σ H s->RelV x v->r x H Q ->
  Y8 (ao X.prog X.w) X.A (f v) (EP X pins σ Q) X.xe s
def cg(X:Cx)(f:Yd)(r:List V->Hp->VK->Prop):Prop:=
 ∀(pins:List (Yq×aB)) (s:Yf) (σ:St) (H:Hp) (xs:List V) (us:List Yd) (Q:VK),Inv X pins σ H s->Vals xs us->r xs H Q ->
  Y8 (ao X.prog X.w) X.A (call f us) (EP X pins σ Q) X.xe s
def Ei(r:R2)(ta tb:TE):TE:=λσ H Q=>ta σ H λx H1=>tb σ H1 λy H2=>r x y H2 Q
def YL(r:V->Hp->VK->Prop)(ta:TE):TE:=λσ H Q=>ta σ H λx H1=>r x H1 Q
def rI(C:Int->Int->Prop)(g:Int->Int->V):R2:=λx y H Q=>∃i j,x= .int i/\y= .int j/\C i j/\Q (g i j) H
def xR(g:Int->Int->V):R2:=λx y H Q=>∃i j,x= .int i/\y= .int j/\Q (g i j) H
noncomputable def rU(g:Int->V):V->Hp->VK->Prop:=λx H Q=>∃i,x= .int i/\Q (g i) H
variable{f:Yd->Yd->nG Yd}{pins:List (Yq×aB)}
section
variable {X:Cx} {a b c:Expr} {ta tb tc:TE} {pos:aY}
theorem PN(ha:PE X a ta)(hb:PE X b tb){s:Yf}{σ:St}{H:Hp}{R:V->V->Hp->Prop}(I:Inv X pins σ H s)(h:ta σ H λx H1=>tb σ H1 λy H2=>R x y H2){Q:Yd->Yf->Prop}(hf:∀v u s2 x y H2,Inv X pins σ H2 s2->RelV x v->RelV y u->R x y H2->Y8 (ao X.prog X.w) X.A (f v u) Q X.xe s2):
  Y8 (ao X.prog X.w) X.A (aF a X.env) (λv s₁=>Y8 (ao X.prog X.w) X.A (aF b X.env) (λu s₂=>Y8 (ao X.prog X.w) X.A (f v u) Q X.xe s₂) X.xe s₁) X.xe s:=by
 refine aP (ha pins s σ H _ I h) λv s1 ak=>?_;obtain⟨x,H1,I1,r1,q1⟩:=ak;refine aP (hb pins s1 σ H1 _ I1 q1) λu s2 ak=>?_;obtain⟨y,H2,I2,r2,q2⟩:=ak;exact hf v u s2 x y H2 I2 r1 r2 q2
theorem Ztz{op:Operator}{r:R2}(ho:bf X (ig op) r)(ha:PE X a ta)(hb:PE X b tb):PE X (.BinOp a op b pos) (Ei r ta tb):=by intro pins s σ H Q I h;exact wpAny_BinOp (PN ha hb I h λv u s2 x y H2 I2 rx ry q=>ho pins s2 σ H2 x y v u Q I2 rx ry q)
theorem ZuU{op:UnaryOp}{r:V->Hp->VK->Prop}(ho:ug X (Ht op) r)(ha:PE X a ta):PE X (.UnaryOp op a pos) (YL r ta):=by intro pins s σ H Q I h;exact UnaryOp_ (aP (ha pins s σ H _ I h) λv s1 ⟨x,H1,I1,r1,q1⟩=>ho pins s1 σ H1 x v Q I1 r1 q1)
theorem Jv{C:Int->Int->Prop}{g:Int->Int->Int}(rule:∀(i j:Int) (t u:fj) (s:Yf) (Q:Yd->Yf->Prop) (E:Yd->Yf->Prop),C i j->Q (.int (g i j) s.toks) {s with toks:=s.toks+1}->Y8 (ao X.prog X.w) X.A (f (.int i t) (.int j u)) Q E s):
  bf X f (rI C λi j=>.int (g i j)):=by
 intro pins s σ H x y v u Q I rx ry h;obtain⟨i,j,rfl,rfl,hc,q⟩:=h;obtain⟨t,rfl⟩:=rx;obtain⟨t',rfl⟩:=ry;exact rule i j t t' s _ _ hc ⟨.int (g i j),H,I.tok _,⟨_,rfl⟩,q⟩
theorem YM{g:Int->Int->Int}(rule:∀(i j:Int) (t u:fj) (s:Yf) (Q:Yd->Yf->Prop) (E:Yd->Yf->Prop),Q (.int (g i j) s.toks) {s with toks:=s.toks+1}->Y8 (ao X.prog X.w) X.A (f (.int i t) (.int j u)) Q E s):
  bf X f (xR λi j=>.int (g i j)):=by
 intro pins s σ H x y v u Q I rx ry h;obtain⟨i,j,rfl,rfl,q⟩:=h;obtain⟨t,rfl⟩:=rx;obtain⟨t',rfl⟩:=ry;exact rule i j t t' s _ _ ⟨.int (g i j),H,I.tok _,⟨_,rfl⟩,q⟩
theorem PQ{g:Int->Int->Bool}(rule:∀(i j:Int) (t u:fj) (s:Yf) (Q:Yd->Yf->Prop) (E:Yd->Yf->Prop),Q (.bool (g i j)) s->Y8 (ao X.prog X.w) X.A (f (.int i t) (.int j u)) Q E s):
  bf X f (xR λi j=>.bl (g i j)):=by
 intro pins s σ H x y v u Q I rx ry h;obtain⟨i,j,rfl,rfl,q⟩:=h;obtain⟨t,rfl⟩:=rx;obtain⟨t',rfl⟩:=ry;exact rule i j t t' s _ _ ⟨.bl (g i j),H,I,rfl,q⟩
def ZvQ(i j:Int):Prop:=0<j/\j<1073741824
def ZvY(i j:Int):Prop:=0<=j/\j<=1000000/\i.natAbs<2^64
def PX(i j:Int):Prop:=(-(2^64)<i/\i<2^64)\/(-(2^64)<j/\j<2^64)
theorem PX.ok{i j:Int}(h:PX i j):IntMulOk i j:=by
 rcases h with⟨h1,h2⟩|⟨h1,h2⟩
 .exact .of_left (intBits_le_64 h1 h2)
 .exact .of_right (intBits_le_64 h1 h2)
theorem Zsc:bf X (ig .Add) (xR λi j=>.int (i+j)):=YM λ_ _ _ _ _ _ _ q=>add_int q
theorem Zrm:bf X (ig .Sub) (xR λi j=>.int (i-j)):=YM λ_ _ _ _ _ _ _ q=>sub_int q
theorem Zri:bf X (ig .Mult) (rI PX λi j=>.int (i*j)):=Jv λ_ _ _ _ _ _ _ hc q=>mul_int q hc.ok
theorem Zqw:bf X (ig .FloorDiv) (rI ZvQ λi j=>.int (i / j)):=Jv λi j _ _ _ _ _ hc q=>by have h1:(0:Int)<j:=hc.1;have h2:j<1073741824:=hc.2;exact floordiv_int (by exactλz=>iN [] [_] 2 26014245025 T1 z h1) (by rw[Int.fdiv_eq_ediv_of_nonneg i (by exact Il h1)];exact q) (.inl (PyProof.noPylong_small (by omega)))
theorem Zrw:bf X (ig .Mod) (rI (λ_ j=>0<j) λi j=>.int (i % j)):=Jv λi j _ _ _ _ _ hc q=>by have h1:(0:Int)<j:=hc;exact mod_int' (by exactλz=>iN [] [_] 2 26014245025 T1 z h1) (by rw[Int.fmod_eq_emod_of_nonneg i (by exact Il h1)];exact q)
theorem ZsK:bf X (ig .Pow) (rI ZvY λi j=>.int (i^j.toNat)):=Jv λ_ _ _ _ _ _ _ hc q=>pow_int_small hc.1 hc.2.1 hc.2.2 q
theorem unI{f:Yd->nG Yd}{g:Int->Int}(rule:∀(i:Int) (t:fj) (s:Yf) (Q:Yd->Yf->Prop) (E:Yd->Yf->Prop),Q (.int (g i) s.toks) {s with toks:=s.toks+1}->Y8 (ao X.prog X.w) X.A (f (.int i t)) Q E s):
  ug X f (rU λi=>.int (g i)):=by
 intro pins s σ H x v Q I rx h;obtain⟨i,rfl,q⟩:=h;obtain⟨t,rfl⟩:=rx;exact rule i t s _ _ ⟨.int (g i),H,I.tok _,⟨_,rfl⟩,q⟩
theorem ZrT:ug X (Ht .USub) (rU λi=>.int (-i)):=unI λ_ _ _ _ _ q=>neg_int q
end
theorem P0{i j:aj}:decide (V.str i=V.str j)=(i==j):=by rw[Dt];simp
section
variable {X:Cx} {a b c:Expr} {ta tb tc:TE} {pos:aY}
theorem P_{σ:St}{H:Hp}{s:Yf}{Q:VK}{k k':Bool}(I:Inv X pins σ H s)(q:Q (.bl k) H)(e:k=k'):EP X pins σ Q (.bool k') s:=by subst e;exact⟨.bl k,H,I,rfl,q⟩
theorem ZuX:bf X (gK .Lt) (xR λi j=>.bl (decide (i<j))):=PQ λ_ _ _ _ _ _ _ q=>lt_int q
theorem Zuh:bf X (gK .Gt) (xR λi j=>.bl (decide (j<i))):=PQ λ_ _ _ _ _ _ _ q=>gt_int q
theorem Zus:bf X (gK .GtE) (xR λi j=>.bl (decide (j<=i))):=PQ λ_ _ _ _ _ _ _ q=>ge_int q
theorem Zmr:bf X (gK .In) (λx y H Q=>∃i j,x= .str i/\y= .str j/\Q (.bl (!(zK j i 0 j.length 1).isEmpty)) H):=by intro pins s σ H x y v u Q I rx ry h;obtain⟨i,j,rfl,rfl,q⟩:=h;obtain⟨t,rfl⟩:=rx;obtain⟨t',rfl⟩:=ry;exact in_str (P_ I q rfl)
theorem Zrc:bf X (gK .Is) (λx y H Q=>y= .non/\Q (.bl (decide (x= .non))) H):=by
 intro pins s σ H x y v u Q I rx ry h;obtain⟨rfl,q⟩:=h;cases ry;refine is_none_gen (P_ I q ?_);cases x<;>first
  |(cases rx;rfl)
  |(obtain⟨t,rfl⟩:=rx;rfl)
theorem Zi1:bf X (gK .NotIn) (λx y H Q=>∃i j,x= .str i/\y= .str j/\Q (.bl (!(!(zK j i 0 j.length 1).isEmpty))) H):=by intro pins s σ H x y v u Q I rx ry h;obtain⟨i,j,rfl,rfl,q⟩:=h;obtain⟨t,rfl⟩:=rx;obtain⟨t',rfl⟩:=ry;exact notIn_str (P_ I q rfl)
noncomputable def isObj:HO->Bool
 | .lst _=>true|.ins _ _ _=>true|_=>false
theorem Ej{s:Yf}{σ:St}{H:Hp}{a:Yq}{o:HO}(I:Inv X pins σ H s)(h:H a=Ya o)(p:isObj o=true):∃ob,s.heap.get? a=Ya ob/\ob.cls≠ .type "tuple":=by
 cases o with
 |lst xs=>obtain⟨_,its,n,_,e⟩:xs.length<=bj/\∃(its:List Yd) (n:Nat),Vals xs its/\s.heap.get? a=Ya {cls:=.type "list",data:=.seq its.toArray n}:=I.hok a _ h;exact⟨_,e,(by show Value.type "list" ≠ .type "tuple";decide +kernel)⟩|ins C dx fs=>have x:=I.hok a _ h;obtain⟨_,_,_,e,_⟩:=x;exact⟨_,e,(by show Value.ref C≠ .type "tuple";exactλz=>by cases z)⟩|_=>exact absurd (show false=true from p) o8
theorem bf.or{r r':R2}(h:bf X f r)(h':bf X f r'):bf X f (λx y H Q=>r x y H Q\/r' x y H Q):=by
 intro pins s σ H x y v u Q I rx ry q;rcases q with q|q
 .exact h pins s σ H x y v u Q I rx ry q
 .exact h' pins s σ H x y v u Q I rx ry q
theorem Zqj{op:CmpOp}{r:R2}(ho:bf X (gK op) r)(ha:PE X a ta)(hb:PE X b tb)(hm:Hh op b=false):PE X (.Compare a [op] [b] pos) (Ei r ta tb):=by intro pins s σ H Q I h;exact wpAny_Compare1 (PN ha hb I h λv u s2 x y H2 I2 rx ry q=>ho pins s2 σ H2 x y v u Q I2 rx ry q) hm
def Zuk(t:TE):TT:=λσ H Q=>t σ H λx H'=>∃k,x= .bl k/\Q k H'
theorem ZpP{op:CmpOp}{r:R2}(ho:bf X (gK op) r)(ha:PE X a ta)(hb:PE X b tb)(hm:Hh op b=false):PT X (.Compare a [op] [b] pos) (Zuk (Ei r ta tb)):=by intro pins s σ H Q I h;refine wpAny_isTrue_Compare1 (aP (ha pins s σ H _ I h) λv s1 ⟨x,H1,I1,r1,q1⟩=>aP (hb pins s1 σ H1 _ I1 q1) λu s2 ⟨y,H2,I2,r2,q2⟩=>aP (ho pins s2 σ H2 x y v u _ I2 r1 r2 q2) λc s3 ⟨z,H3,I3,r3,k,e,q3⟩=>?_) hm;subst e;cases r3;exact CN ⟨H3,I3,q3⟩
theorem Ek:(bj:Nat)<2^63:=by rw[mK];decide
theorem Zkt:bf X (ig .Add) (λx y H Q=>∃i j,x= .str i/\y= .str j/\i.length+j.length<=bj/\Q (.str (i++j)) H):=by intro pins s σ H x y v u Q I rx ry h;obtain⟨i,j,rfl,rfl,hz,q⟩:=h;obtain⟨t,rfl⟩:=rx;obtain⟨t',rfl⟩:=ry;exact add_str (λt' tk=>⟨.str (i++j),H,I.tok _,⟨_,rfl⟩,q⟩) hz
theorem vals1{x:V}{us:List Yd}(r:Vals [x] us):∃u,us=[u]/\RelV x u:=by
 cases r with
 |cons r1 r2=>cases r2;exact⟨_,rfl,r1⟩
theorem vals2{x y:V}{us:List Yd}(r:Vals [x,y] us):∃u w',us=[u,w']/\RelV x u/\RelV y w':=by
 cases r with
 |cons r1 r2=>
  cases r2 with
  |cons r3 r4=>cases r4;exact⟨_,_,rfl,r1,r3⟩
theorem ZmF(hc:X.calm=true):cg X (.builtin "max") (λxs H Q=>∃i j,xs=[.int i,.int j]/\Q (.int (if j>i then j else i)) H):=by
 intro pins s σ H xs us Q I r h;obtain⟨i,j,rfl,q⟩:=h;obtain⟨u,w',rfl,⟨t,rfl⟩,⟨t',rfl⟩⟩:=vals2 r;refine max_two_ints (I.ok.hd hc) λh' tk k=>⟨_,H,I.kept k,?_,q⟩;by_cases hj:j>i
 .rw[if_pos hj,if_pos hj];exact⟨_,rfl⟩
 .rw[if_neg hj,if_neg hj];exact⟨_,rfl⟩
theorem Zmi(hc:X.calm=true):cg X (.builtin "min") (λxs H Q=>∃i j,xs=[.int i,.int j]/\Q (.int (if j<i then j else i)) H):=by
 intro pins s σ H xs us Q I r h;obtain⟨i,j,rfl,q⟩:=h;obtain⟨u,w',rfl,⟨t,rfl⟩,⟨t',rfl⟩⟩:=vals2 r;refine min_two_ints (I.ok.hd hc) λh' tk k=>⟨_,H,I.kept k,?_,q⟩;by_cases hj:j<i
 .rw[if_pos hj,if_pos hj];exact⟨_,rfl⟩
 .rw[if_neg hj,if_neg hj];exact⟨_,rfl⟩
theorem ZmI:cg X (.type "int") (λxs H Q=>(∃i,xs=[.int i]/\Q (.int i) H)\/∃k,xs=[.bl k]/\Q (.int (if k then 1 else 0)) H):=by
 intro pins s σ H xs us Q I r h;rcases h with⟨i,rfl,q⟩|⟨k,rfl,q⟩
 .obtain⟨u,rfl,t,rfl⟩:=vals1 r;exact call_int_int ⟨.int i,H,I,⟨_,rfl⟩,q⟩
 .obtain⟨u,rfl,r1⟩:=vals1 r;cases r1;exact call_int_bool ⟨.int (if k then 1 else 0),H,I.tok _,⟨_,rfl⟩,q⟩
theorem ZiW:cg X (.type "str") (λxs H Q=>∃i,xs=[.int i]/\i.natAbs.log2<1920/\Q (.str (rD i)) H):=by intro pins s σ H xs us Q I r h;obtain⟨i,rfl,hz,q⟩:=h;obtain⟨u,rfl,t,rfl⟩:=vals1 r;exact PySem.P.str_of_int hz ⟨.str _,H,I.tok _,⟨_,rfl⟩,q⟩
def ZvR(K:Yb)(x:V)(H:Hp)(n:Nat):Prop:=
 match x with
 | .str y=>y.length<=bj/\n=y.length|.Eb y=>y.size<=bj/\n=y.size|.ref p=>(∃xs,bQ K H p xs/\n=xs.length)\/∃xs,cJ K H p xs/\n=xs.length|_=>False
theorem Zox:cg X (.builtin "len") (λxs H Q=>∃x n,xs=[x]/\ZvR X.K x H n/\Q (.int n) H):=by
 intro pins s σ H xs us Q I r h;obtain⟨x,n,rfl,e,q⟩:=h;obtain⟨u,rfl,rx⟩:=vals1 r;have hl:=Ek;have hs:bj=16777216:=mK;cases x with
 |str y=>obtain⟨t,rfl⟩:=rx;obtain⟨hy,e'⟩:y.length<=bj/\n=y.length:=e;subst e';exact len_str (by omega) ⟨.int _,H,I.tok _,⟨_,rfl⟩,q⟩|Eb y=>obtain⟨t,rfl⟩:=rx;obtain⟨hy,e'⟩:y.size<=bj/\n=y.size:=e;subst e';exact PySem.W.len_bytes (by omega) ⟨.int _,H,I.tok _,⟨_,rfl⟩,q⟩|ref p=>
  cases rx
  have e':(∃xs,bQ X.K H p xs/\n=xs.length)\/∃xs,cJ X.K H p xs/\n=xs.length:=e;rcases e' with⟨xs,hx,e'⟩|⟨xs,hx,e'⟩
  .subst e';obtain⟨its,r',pl,hz⟩:=I.list hx;have hlen:=r'.length;exact Calls.call_len_list pl.isList (by simp only[Yl];omega) ⟨.int xs.length,H,I.tok _,⟨_,by simp only[Yl];rw[hlen]⟩,q⟩
  .subst e';obtain⟨its,r',pl,hz⟩:=I.tuple hx;have hlen:=r'.length;exact len_tuple pl (by simp only[Yl];omega) ⟨.int xs.length,H,I.tok _,⟨_,by simp only[Yl];rw[hlen]⟩,q⟩
 |_=>exact(show False from e).elim
end
end L2
namespace L2
open PySem PySem.Spec PyProof.Rows
structure Qa(h:aq)(x dx C:Yq)(mA:aj->Option Yd):Prop where
 obj:h.get? x=Ya (wX C dx)
 ns:h.Ns1 dx mA
 ne:dx≠x
theorem ZmN{h:aq}{dx:Yq}{mA:aj->Option Yd}(n:h.Ns1 dx mA):∃od,h.get? dx=Ya od/\∀name,MF name od=Ya (mA name):=by
 obtain⟨o,es,ep,ho,hd,hk,_,hm⟩:=n;refine⟨o,ho,λname=>?_⟩;have e:=hm name;unfold Dg findBy at e;rw[←Array.find?_toList]at e;unfold MF;rw[hd];dsimp only;split
 .rename_i y q;rw[q]at e;exact congrArg Ya e
 .rename_i q;rw[q]at e;have a:es.toList.any (·.refKey)=false:=by
   rw[List.any_eq_false];intro y hy;obtain⟨z,t,hkey⟩:=hk y (Wy.mp hy);simp[DictEntry.refKey,hkey]
  have a':¬es.toList.any (·.refKey)=true:=by rw[a];exact o8
  rw[if_neg a'];exact congrArg Ya e
theorem Qa.look{h:aq}{x dx C:Yq}{mA:aj->Option Yd}(I:Qa h x dx C mA):∃od,PySem.W.InstAt h x (wX C dx) C (Ya od)/\∀name,MF name od=Ya (mA name):=
 let⟨od,ho,hl⟩:=ZmN I.ns
 ⟨od,⟨I.obj,rfl,rfl,ho⟩,hl⟩
noncomputable def Qc(f:aj)(v:V):List (aj×V)->List (aj×V)
 |[]=>[(f,v)]|(g,x)::r=>if g=f then(g,v)::r else(g,x)::Qc f v r
theorem nU.some_of{v:V}{o:Option Yd}(r:nU (Ya v) o):∃u,o=Ya u/\RelV v u:=by
 cases o with
 |none=>exact(show False from r).elim|some u=>exact⟨u,rfl,r⟩
section
variable {P:Y3} {w:aO} {H H':Hp} {h h':aq} {a C dx:Yq} {fs fs':List (aj×V)}
theorem ZpY(hok:cV P w H h)(e:H a=Ya (.ins C dx fs)):∃mA,Qa h a dx C mA/\(∀f,nU (fs.lookup f) (mA f))/\PySem.Within mA (fs.map (·.1))/\fs.length<=1000/\H dx=Ya (.own a):=by obtain⟨d,z,ne,ob,mA,n,r,q⟩:=(show bZ P w H h a (.ins C dx fs)from hok a _ e);exact⟨mA,⟨ob,n,ne⟩,r,q,z,d⟩
end
structure Qd(K:Yb)(C:Yq):Prop where
 pg:UW K C rn=true
 hd:PySem.W.hasDictIn K C=true
 po:PySem.W.plainOver K C=true
 sa:fM K (.ref C) "__setattr__" =Ya (Ya (.builtin "object.__setattr__"))
theorem Qd.get{K:Yb}{C:Yq}(c:Qd K C)(f:aj):UW K C f=true:=c.pg
section
variable {X:Cx} {pins:List (Yq×aB)} {σ:St} {H:Hp} {s:Yf} {a C dx:Yq} {fs:List (aj×V)} {f:aj} {v:V} {A:bB} {E:Yd->Yf->Prop}
theorem Inv.made(I:Inv X pins σ H s):Inv X pins σ (upd (upd H s.heap.objs.size (.own (s.heap.objs.size+1))) (s.heap.objs.size+1) (.ins C s.heap.objs.size []))
  {s with heap:=(s.heap.push u0).push (wX C s.heap.objs.size)}:=by
 have e1:(s.heap.push u0).get? s.heap.objs.size=Ya u0:=Yw s.heap rfl;have e2:((s.heap.push u0).push (wX C s.heap.objs.size)).get? (s.heap.objs.size+1)=Ya (wX C s.heap.objs.size):=by
  have:=Yw (s.heap.push u0) (o:=wX C s.heap.objs.size) rfl
  rwa[vC]at this
 have e3:(s.heap.push u0).Ns s.heap.objs.size (λ_=>Ye):=⟨u0,#[],_,e1,rfl,(λe he=>absurd he (by simp)),λ_=>rfl⟩;have I1:=I.laid (a:=s.heap.objs.size) (o:=.own (s.heap.objs.size+1)) (h':=s.heap.push u0) (t':=s.toks) (λb u q=>Yh _ q) (Yt _) ⟨_,e1⟩;refine I1.laid (a:=s.heap.objs.size+1) (o:=.ins C s.heap.objs.size []) (t':=s.toks) (λb u q=>Yh _ q) (kZ (vC _ _)) ?_;have ne:s.heap.objs.size≠s.heap.objs.size+1:=eQ (Nat.lt_succ_self _);refine⟨by rw[Zr ne,dz],jU _,ne,e2,λ_=>Ye,(Xl e3).at λo q=>Yh _ q,λ_=>True.intro,λy hy=>absurd rfl hy⟩
theorem Zqq{prog:Y3}{w:aO}{env:cH}{e:Expr}{f:aj}{pos:aY}{s:Yf}{Q:Yd->Yf->Prop}(hb:oW e f env (aF e env)=aF e env)(h:Y8 (ao prog w) A (aF e env) (λo s₁=>Y8 (ao prog w) A (getAttr o f true) Q E s₁) E s):Y8 (ao prog w) A (aF (.Attribute e f pos) env) Q E s:=Attribute_any_ h (by rw[arm_eval_Attribute,hb])
end
section
variable {X:Cx} {pins:List (Yq×aB)} {σ:St} {H:Hp} {s:Yf} {A:bB} {E:Yd->Yf->Prop} {Q:Yd->Yf->Prop} {c:Yd} {b:Bool}
inductive pC(K:Yb)(H:Hp):V->Yd->Prop where
 |non:pC K H .non (.type "NoneType")
 |bl (x:Bool):pC K H (.bl x) (.type "bool")
 |int (i:Int):pC K H (.int i) (.type "int")
 |str (x:aj):pC K H (.str x) (.type "str")
 |flt (x:UInt64):pC K H (.flt x) (.type "float")
 |lst {a:Yq} {xs:List V} (e:H a=Ya (.lst xs)):pC K H (.ref a) (.type "list")
 |bJ {a:Yq} {o:aB} {xs:List V} (e:H a=Ya (.bJ o (.lst xs))):pC K H (.ref a) (.type "list")
 |tup {a:Yq} {xs:List V} (e:H a=Ya (.tup xs)):pC K H (.ref a) (.type "tuple")
 |dK {a:Yq} {kvs:List (Key×V)} (e:H a=Ya (.dK kvs)):pC K H (.ref a) (.type "dict")
 |dT {a:Yq} {kvs:List (List Key×V)} (e:H a=Ya (.dT kvs)):pC K H (.ref a) (.type "dict")
 | ins {a C dx:Yq} {fs:List (aj×V)} (e:H a=Ya (.ins C dx fs)) (cl:Qd K C) (ha:fM K (.ref C) "__class__" =Ya (Ya (.builtin "object.__class__")))
   (hn:yZ K (.builtin "object.__class__") "__get__" =Ya (Ya (.builtin "getset_descriptor.__get__"))) (htk:Mw K (.builtin "object.__class__")=Ya true)
   (hm:qb K C (.type "object")=Ya true):pC K H (.ref a) (.ref C)
theorem zU{x:V}{u t:Yd}(I:Inv X pins σ H s)(rx:RelV x u)(ty:pC X.K H x t)(e:MJ X.K t c=Ya b)(h:∀tk,Q (.bool b) {s with toks:=tk}):
  Y8 (ao X.prog X.w) A (call (.builtin "isinstance") [u,c]) Q E s:=by
 cases ty with
 |non=>cases(show u=Value.none from rx);exact nD UL I.bO True.intro e (λz=>nomatch z) h|bl y=>cases(show u=Value.bool y from rx);exact nD PySem.W.kitx_bool I.bO True.intro e (λz=>nomatch z) h|int i=>obtain⟨t,q⟩:=(show∃t,u=Value.int i t from rx);cases q;exact nD PySem.W.kitx_int I.bO True.intro e (λz=>nomatch z) h|str y=>obtain⟨t,q⟩:=(show∃t,u=Value.str y t from rx);cases q;exact nD PySem.W.kitx_str I.bO True.intro e (λz=>nomatch z) h
 |flt y=>obtain⟨t,q⟩:=(show∃t,u=Value.float y t from rx);cases q;exact nD PySem.W.kitx_float I.bO True.intro e (λz=>nomatch z) h|@lst a xs ea=>
  cases(show u=Value.ref a from rx)
  obtain⟨_,_,n,_,h1⟩:=(show bZ X.prog X.w H s.heap a (.lst xs)from I.hok a _ ea);exact nD UT I.bO ⟨_,h1,rfl⟩ e (λz=>nomatch z) h
 | @bJ a ob xs ea=>
  cases(show u=Value.ref a from rx)
  obtain⟨_,_,_,n,_,h1⟩:=(show bZ X.prog X.w H s.heap a (.bJ ob (.lst xs))from I.hok a _ ea);exact nD UT I.bO ⟨_,h1,rfl⟩ e (λz=>nomatch z) h
 | @tup a xs ea=>
  cases(show u=Value.ref a from rx)
  obtain⟨_,_,_,p⟩:=(show bZ X.prog X.w H s.heap a (.tup xs)from I.hok a _ ea);obtain⟨o,h1,h2,_⟩:=p;exact nD UG I.bO ⟨o,h1,h2.1⟩ e (λz=>nomatch z) h
 | @dK a kvs ea=>
  cases(show u=Value.ref a from rx)
  obtain⟨_,_,vs,_,p⟩:=(show bZ X.prog X.w H s.heap a (.dK kvs)from I.hok a _ ea);obtain⟨o,es,ep,h1,h2,_⟩:=p;exact nD UV I.bO ⟨o,h1,h2.1⟩ e (λz=>nomatch z) h
 | @dT a kvs ea=>
  cases(show u=Value.ref a from rx)
  obtain⟨_,_,xs,_,o,es,ep,h1,h2,_⟩:=(show bZ X.prog X.w H s.heap a (.dT kvs)from I.hok a _ ea);exact nD UV I.bO ⟨o,h1,h2.1⟩ e (λz=>nomatch z) h
 | @ins a C dx fs ea cl ha hn htk hm=>
  cases(show u=Value.ref a from rx)
  obtain⟨mA,O,_⟩:=ZpY I.hok ea;obtain⟨od,J,_⟩:=O.look;exact nD (PySem.W.kitx_own (cl.get _) cl.hd ha hn htk hm) I.bO J e (λz=>nomatch z) h
end
end L2
namespace L2
open PySem PySem.Spec PyProof.Rows
structure cL(k:Nat)(A:bB):Prop where
 hd:A.handled=Ye
 dp:A.depth+3*k+5<recursionLimit
 un:A.units+16*k+200<iH
 gd:A.guards=Ya []
variable{A:bB}
theorem cL.mono{j k:Nat}(r:cL k A)(h:j<=k):cL j A:=⟨r.hd,by have:=r.dp;exact lD 2 0x251b303d0cc11303251b103d0cc11 T1 this h,by have:=r.un;omega,r.gd⟩
theorem cL.deeper{k:Nat}(r:cL (k+1) A)(env:cH):cL k (A.deeper env):=⟨r.hd,by have:=r.dp;show A.depth+1+3*k+5<_;exact lC 1 0x251b103da0ccc1251ba1c03d0cc11 T1 this,by have:=r.un;show A.units+3+16*k+200<_;exact lC 1 0x2c82b110d31b0ccc12c82ba1c10d0cc11 T1 this,r.gd⟩
theorem cL.in1{k:Nat}(r:cL (k+1) A):cL k A.in1:=⟨r.hd,by have:=r.dp;show A.depth+3*k+5<_;exact lC 1 0x251b103d0cc1251ba1c03d0cc11 T1 this,by have:=r.un;show A.units+1+16*k+200<_;exact lC 1 0x2c82b110da0ccc12c82ba1c10d0cc11 T1 this,r.gd⟩
variable{us:List Yd}
theorem Zk6{C:Yq}{kw:List (aj×Yd)}:(A.under (.builtin "type.__call__" ⟨.ref C::us,kw⟩)).depth=A.depth+1:=by first|rfl|simp[Ja,Code.weight,Code.isCreation,Code.isGuard,Code.isCaller,Code.frames,O2,guardIds]
theorem ZkZ{C:Yq}{kw:List (aj×Yd)}:(A.under (.builtin "type.__call__" ⟨.ref C::us,kw⟩)).units=A.units+1:=by first|rfl|simp[Ja,Code.cUnits,Code.frames,O2]
theorem cL.make{k:Nat}(r:cL (k+1) A)(C:Yq)(us:List Yd)(kw:List (aj×Yd)):cL k (A.under (.builtin "type.__call__" ⟨.ref C::us,kw⟩)):=⟨r.hd,by have:=r.dp;rw[Zk6];exact lC 1 0x251b103da0ccc1251ba1c03d0cc11 T1 this,by have:=r.un;rw[ZkZ];exact lC 1 0x2c82b110da0ccc12c82ba1c10d0cc11 T1 this,by have:=r.gd;first|exact this|simpa[Ja,Code.isGuard,guardIds]using this⟩
theorem cL.depth{k:Nat}(r:cL k A):A.depth<recursionLimit:=by have:=r.dp;exact lC 1 0x201251b103d0cc11 T1 this
theorem cL.units{k:Nat}(r:cL k A):A.units+64<iH:=by have:=r.un;exact lC 1 0x2402b0c12c82b110d0cc11 T1 this
def Jw:TA:=λ_ H Q=>Q [] H
def zV(ta:TE)(tr:TA):TA:=λσ H Q=>ta σ H λx H1=>tr σ H1 λxs H2=>Q (x::xs) H2
section
variable {X:Cx} {e:Expr} {es:List Expr} {te:TE} {t:TA} {pos:aY}
theorem El:PA X [] Jw:=λ_ _ _ _ H Q I h=>W3 ⟨[],H,I,.nil,h⟩
theorem uh(ha:PE X e te)(hr:PA X es t)(hs:Yp (e::es) X.env=(false,aF e X.env)::Yp es X.env:=by rfl):PA X (e::es) (zV te t):=by intro pos pins s σ H Q I h;rw[hs];show Y8 _ _ (Hs ((false,aF e X.env)::bN pos (Yp es X.env))) _ _ s;refine W2 (aP (ha pins s σ H _ I h) λu s1 ak=>?_);obtain⟨x,H1,I1,r1,q1⟩:=ak;exact aP (hr pos pins s1 σ H1 _ I1 q1) λus s2 ⟨xs,H2,I2,r2,q2⟩=>⟨x::xs,H2,I2,.cons r1 r2,q2⟩
def Zv7(t:TA):TE:=λσ H Q=>t σ H λxs H1=>xs.length<=bj/\∀p,H1 p=Ye->Q (.ref p) (upd H1 p (.tup xs))
def ZvJ(t:TA):TE:=λσ H Q=>t σ H λxs H1=>xs.length<=bj/\∀p,H1 p=Ye->Q (.ref p) (upd H1 p (.lst xs))
theorem Zrz{x1}(h:PA X es t):PE X (.Tuple es x1 pos) (Zv7 t):=by intro pins s σ H Q I hq;refine wpAny_Tuple_spliced (aP (h pos pins s σ H _ I hq) λus s1 ⟨xs,H1,I1,r,z,q⟩=>⟨by rw[←r.length];exact z,?_⟩);have hf:H1 s1.heap.objs.size=Ye:=I1.hok.fresh (Yt _);refine⟨.ref s1.heap.objs.size,upd H1 s1.heap.objs.size (.tup xs),I1.laid (t':=s1.toks) (λb u e=>Yh _ e) (Yt _) ?_,rfl,q _ hf⟩;exact⟨z,us,r,⟨_,Yw _ rfl,⟨rfl,rfl⟩,_,rfl⟩⟩
theorem ZsY(h:PA X es t):PE X (.List es pos) (ZvJ t):=by intro pins s σ H Q I hq;refine wpAny_List_spliced (aP (h pos pins s σ H _ I hq) λus s1 ⟨xs,H1,I1,r,z,q⟩=>⟨by rw[←r.length];exact z,?_⟩);have hf:H1 s1.heap.objs.size=Ye:=I1.hok.fresh (Yt _);refine⟨.ref s1.heap.objs.size,upd H1 s1.heap.objs.size (.lst xs),I1.laid (t':=s1.toks) (λb u e=>Yh _ e) (Yt _) ?_,rfl,q _ hf⟩;exact⟨z,us,0,r,Yw _ rfl⟩
end
noncomputable abbrev Sp:=List V->Hp->VK->XK->Prop
noncomputable abbrev nY:=List cH->Hp->Yf->XK->Yd->Yf->Prop
structure rH(P:Y3)(w:aO)(K:Yb)(mg:aj->Option Yd)(base:aq)(A:bB)(outer:List cH)(s:Yf)(H:Hp):Prop where
 frames:A.frames=Ya outer
 mod:Mod K mg base
 bs:∀b o,base.get? b=Ya o->s.heap.get? b=Ya o/\H b=Ye
 nW:base.objs.size<=s.heap.objs.size
 jL:s.heap.FunFrames base outer
 qw:∀b∈frs outer,H b=Ye
 hok:cV P w H s.heap
 bare:rA s.gens
def CE(outer:List cH)(P:Y3)(w:aO)(H:Hp)(s:Yf)(Q:VK)(u:Yd)(s':Yf):Prop:=∃v H',s'.os=s.os/\rA s'.gens/\Un (frs outer) [] H H' s.heap s'.heap/\cV P w H' s'.heap/\RelV v u/\Q v H'
def CR(CX:nY)(outer:List cH)(P:Y3)(w:aO)(H:Hp)(s:Yf)(Q:VK)(E:XK)(r:tM)(s':Yf):Prop:=
 match r with
 | .ok (.ret u)=>CE outer P w H s Q u s'|.ok _=>False|.error e=>CX outer H s E e s'
structure fC(P:Y3)(w:aO)(K:Yb)(mg:aj->Option Yd)(base:aq)(CX:nY)(k:Nat)(f:Yq)(fd:gM)(ps:List aj)(sp:Sp):Prop where
 len:∀vs H Q E,sp vs H Q E->vs.length=ps.length
 run:∀(A:bB) (outer:List cH) (s:Yf) (H:Hp) (args:Args) (us:List Yd) (vs:List V) (Q:VK) (E:XK),cL k A->rH P w K mg base A outer s H->zp s fd args (ps.zip us)->Vals vs us->sp vs H Q E ->
  oY (ao P w) A (.call (.ref f) args) (CR CX outer P w H s Q E) s
variable{P:Y3}{mg:aj->Option Yd}{base:aq}{K:Yb}{ps:List aj}{w:aO}
theorem fC.imp{CX:nY}{k:Nat}{f:Yq}{fd:gM}{sp YQ:Sp}(F:fC P w K mg base CX k f fd ps sp)(h:∀vs H Q E,YQ vs H Q E->sp vs H Q E):fC P w K mg base CX k f fd ps YQ:=⟨λvs H Q E q=>F.len vs H Q E (h _ _ _ _ q),λA outer s H args us vs Q E hr he hb hv hs=>F.run A outer s H args us vs Q E hr he hb hv (h _ _ _ _ hs)⟩
variable{outer:List cH}
theorem rH.make{s:Yf}{H:Hp}(e:rH P w K mg base A outer s H)(C:Yq)(us:List Yd)(kw:List (aj×Yd)):
  rH P w K mg base (A.under (.builtin "type.__call__" ⟨.ref C::us,kw⟩)) outer s H:=⟨by first|exact e.frames|(simpa[Ja,Code.envs,O2,pushEnvs]using e.frames),e.mod,e.bs,e.nW,e.jL,e.qw,e.hok,e.bare⟩
theorem rH.in1{s:Yf}{H:Hp}(e:rH P w K mg base A outer s H):
  rH P w K mg base A.in1 outer s H:=⟨e.frames,e.mod,e.bs,e.nW,e.jL,e.qw,e.hok,e.bare⟩
section
variable {X:Cx} {pins:List (Yq×aB)} {σ:St} {H:Hp} {s s':Yf}
theorem Inv.env0(I:Inv X pins σ H s):rH X.prog X.w X.K X.mg X.base X.A X.stack s H:=⟨I.ok.frames,I.ok.mod,I.bs,Ym I.ok.nW I.sz,I.stack,I.Gy,I.hok,I.bare⟩
theorem Inv.after{Q:VK}{u:Yd}(I:Inv X pins σ H s)(h:CE X.stack X.prog X.w H s Q u s'):EP X pins σ Q u s':=by obtain⟨v,H',os,bare,un,hok,r,q⟩:=h;obtain⟨hh,g,d,t,os'⟩:=s';obtain rfl:os'=s.os:=os;exact⟨v,H',I.call (h':=hh) (g':=g) (d':=d) (t':=t) (ch:=[]) un hok bare (λb z=>absurd z (by simp)),r,q⟩
end
def ZtZ(sp:Sp)(vQ:List V)(E:XK)(t:TA):TE:=λσ H Q=>t σ H λvs H1=>sp (vs++vQ) H1 Q E
def Binds(K:Yb)(fd:gM)(ps:List aj)(ds:List Yd):Prop:=∀(s:Yf) (us:List Yd),K.In s.heap->(us++ds).length=ps.length->zp s fd ⟨us,[]⟩ (ps.zip (us++ds))
theorem Binds.all{fd:gM}(h:∀us:List Yd,us.length=ps.length->bindArgs fd ⟨us,[]⟩=pure (ps.zip us)):Binds K fd ps []:=λs us _ hl=>by rw[iJ]at hl ⊢;exact .of_eq (h us hl)
def Qe(CX:nY)(X:Cx)(E:XK):Prop:=∀(pins:List (Yq×aB)) (σ:St) (H:Hp) (s:Yf) (e:Yd) (s':Yf),Inv X pins σ H s->CX X.stack H s E e s'->X.xe e s'
section
variable {X:Cx} {CX:nY} {k:Nat} {f C:Yq} {fd:gM} {ps:List aj} {sp:Sp} {vQ:List V} {ds:List Yd} {E:XK} {x m:aj} {p pos apos:aY} {e o:Expr} {es:List Expr} {ta:TE} {t:TA}
theorem Ztg{pins:List (Yq×aB)}{σ:St}{H:Hp}{s:Yf}{Q:VK}{vs:List V}(F:fC X.prog X.w X.K X.mg X.base CX k f fd ps sp)(hr:cL k X.A)(hb:Binds X.K fd ps ds)(hd:Vals vQ ds)(hx:Qe CX X E)(I:Inv X pins σ H s)(r:Vals vs us)(h:sp (vs++vQ) H Q E):Y8 (ao X.prog X.w) X.A (call (.ref f) us) (EP X pins σ Q) X.xe s:=by
 have r2:Vals (vs++vQ) (us++ds):=r.append hd;have hl:(us++ds).length=ps.length:=by rw[←r2.length];exact F.len _ _ _ _ h
 refine qZ (tH (F.run X.A X.stack s H ⟨us,[]⟩ (us++ds) (vs++vQ) Q E hr I.env0 (hb s us I.bO hl) r2 h) λr s' hq=>?_);cases r with
 |error e=>exact hx pins σ H s e s' I hq|ok fl=>
  cases fl with
  |ret u=>exact I.after hq|next=>exact dH hq|brk=>exact dH hq|cont=>exact dH hq
theorem ZpK(F:fC X.prog X.w X.K X.mg X.base CX k f fd ps sp)(hr:cL k X.A)(hg:Gl X x)(hm:X.mg x=Ya (.ref f))(hk:wY X.K (.ref f)=true)(hb:Binds X.K fd ps ds)(hd:Vals vQ ds)(hx:Qe CX X E)(ha:PA X (e::es) t)(hdb:(x==("__debug__":aj))=false:=by decide)(he:Yp (e::es) X.env=(false,aF e X.env)::Yp es X.env:=by rfl)(hpl:(bN pos (Yp es X.env)).any (·.1)=false:=by rfl):
  PE X (.Call (.Name x p) (e::es) [] pos) (ZtZ sp vQ E t):=by
 intro pins s σ H Q I h;refine CK (vO I hg hm ?_ hdb);refine UJ (h₀:=X.base) I.ok.mod.vM hk (aP (ha pos pins s σ H _ I h) λus s1 ⟨vs,H1,I1,r,q⟩=>⟨I1.bO,?_⟩) he hpl;exact Ztg F hr hb hd hx I1 r q
end
def PK(X:Cx)(kws:List Keyword)(t:TA):Prop:=∀(pos:aY) (pins:List (Yq×aB)) (s:Yf) (σ:St) (H:Hp) (Q:List V->Hp->Prop),Inv X pins σ H s->t σ H Q->Y8 (ao X.prog X.w) X.A (evalAll ((jO pos (jN kws X.env)).map (·.2))) (AP X pins σ Q) X.xe s
section
variable {X:Cx} {CX:nY} {k:Nat} {f C:Yq} {fd:gM} {ps ks:List aj} {sp:Sp} {E:XK} {x m:aj} {p pos apos kpos:aY} {e o:Expr} {es:List Expr} {kws:List Keyword} {te ta:TE} {t tk:TA} {nm:Option aj}
theorem Zso:PK X [] Jw:=λ_ _ _ _ H Q I h=>wpAny_evalAll_nil ⟨[],H,I,.nil,h⟩
theorem Zp5(ha:PE X e te)(hr:PK X kws t):PK X (⟨nm,e,kpos⟩::kws) (zV te t):=by intro pos pins s σ H Q I h;show Y8 _ _ (evalAll ((do let v ←aF e X.env;zm pos;pure v)::(jO pos (jN kws X.env)).map (·.2))) _ _ s;refine wpAny_evalAll_cons (Yc (aP (ha pins s σ H _ I h) λu s1 ⟨x,H1,I1,r1,q1⟩=>Yc (vf (Yr ?_))));exact aP (hr pos pins s1 σ H1 _ I1 q1) λus s2 ⟨xs,H2,I2,r2,q2⟩=>⟨x::xs,H2,I2,.cons r1 r2,q2⟩
variable {g:List Yd->List Yd->List Yd} {gV:List V->List V->List V}
end
structure eU(N P:List aj)(sc:Scope):Prop where
 kind:sc.kind= .function
 co:sc.isCoroutine=false
 gen:sc.isGenerator=false
 nd:N.Nodup
 pre:N.take P.length=P
 YS:∀x∈P,sc.names.lookup x=Ya .local\/sc.names.lookup x=Ya .cell
 Ac7:∀y∈sc.names,y.2≠ .free
theorem YT{mL:aj->Option NameKind}{x:aj}:∀{binds:List (aj×Yd)} {m:aj->Option Yd},(∀v,(x,v)∉binds)->vo mL binds m x=m x
 |[],_,_=>rfl|(n,v)::r,m,h=>by
  unfold vo;rw[YT λw hw=>h w (Yv _ hw)];split
  .have:x≠n:=by rintro rfl;exact h v Yu
   simp[this]
  .rfl
theorem YW{mL:aj->Option NameKind}{x:aj}:∀{binds:List (aj×Yd)} {m:aj->Option Yd},(∀v,(x,v)∉binds)->vy mL binds m x=m x
 |[],_,_=>rfl|(n,v)::r,m,h=>by
  unfold vy;rw[YW λw hw=>h w (Yv _ hw)];split
  .rfl
  .have:x≠n:=by rintro rfl;exact h v Yu
   simp[this]
theorem YX{mL:aj->Option NameKind}{x:aj}{v:Yd}:∀{P:List aj} {vs:List Yd} {i:Nat} {m:aj->Option Yd},P.Nodup->P[i]?=Ya x->vs[i]?=Ya v->mL x=Ya .local ->
  vo mL (P.zip vs) m x=Ya v
 |[],_,_,_,_,h,_,_=>by simp at h|_::_,[],_,_,_,_,h,_=>by simp at h|p::P,w::vs,0,m,nd,h1,h2,hk=>by simp at h1 h2;subst h1;subst h2;show vo mL ((p,w)::P.zip vs) m p=_;unfold vo;rw[YT λv hv=>(HB.mp nd).1 (Dk hv).1,if_pos hk];simp|p::P,w::vs,i+1,m,nd,h1,h2,hk=>by show vo mL ((p,w)::P.zip vs) m x=_;unfold vo;exact YX (i:=i) (HB.mp nd).2 (by simpa using h1) (by simpa using h2) hk
theorem YZ{mL:aj->Option NameKind}{x:aj}{v:Yd}:∀{P:List aj} {vs:List Yd} {i:Nat} {m:aj->Option Yd},P.Nodup->P[i]?=Ya x->vs[i]?=Ya v->mL x≠Ya .local ->
  vy mL (P.zip vs) m x=Ya v
 |[],_,_,_,_,h,_,_=>by simp at h|_::_,[],_,_,_,_,h,_=>by simp at h|p::P,w::vs,0,m,nd,h1,h2,hk=>by simp at h1 h2;subst h1;subst h2;show vy mL ((p,w)::P.zip vs) m p=_;unfold vy;rw[YW λv hv=>(HB.mp nd).1 (Dk hv).1,if_neg hk];simp|p::P,w::vs,i+1,m,nd,h1,h2,hk=>by show vy mL ((p,w)::P.zip vs) m x=_;unfold vy;exact YZ (i:=i) (HB.mp nd).2 (by simpa using h1) (by simpa using h2) hk
noncomputable def start(N:List aj)(vs:List V):St:=vs.map Ya++Yj (N.length-vs.length) Ye
noncomputable def nZ(CX:nY)(P:Y3)(w:aO)(K:Yb)(mg:aj->Option Yd)(base:aq)(N:List aj)(qual:aj)(scope:Scope)(f:Yq)(cd:Yd)(A:bB)(outer:List cH)(s:Yf)(H:Hp)(E:XK):Cx where
 prog:=P
 w:=w
 K:=K
 mg:=mg
 base:=base
 A:=A.deeper (k_ qual scope s.heap.objs.size f cd)
 N:=N
 s₀:=s
 H₀:=H
 env:=k_ qual scope s.heap.objs.size f cd
 outer:=outer
 stack:=k_ qual scope s.heap.objs.size f cd::outer
 ex:=[]
 calm:=true
 fn:=λ_=>true
 pn:=[]
 xe:=λe s'=>Y8 (ao P w) (A.deeper (k_ qual scope s.heap.objs.size f cd)) (Hu (k_ qual scope s.heap.objs.size f cd) e) (λ_ s''=>CX outer H s E e s'') (λe' s''=>CX outer H s E e' s'') s'
theorem Y_{sc:Scope}{n:Nat}{x:aj}(h:sc.names.lookup x=Ya .cell):∃c,(Np n sc.names []).lookup x=Ya c:=by have q:=Ux sc.names n [] (.inl h);exact GQ.mp q
theorem Zmz{CX:nY}{N:List aj}{qual:aj}{scope:Scope}{f:Yq}{cd:Yd}{s s1:Yf}{H:Hp}{E:XK}{vs:List V}(S:eU N ps scope)(hd:A.handled=Ye)(e0:rH P w K mg base A outer s H)(hl:vs.length=ps.length)(r:Vals vs us)(x:InCallC s s.heap.objs.size (vo (k_ qual scope s.heap.objs.size f cd).kindOf (ps.zip us) λ_=>Ye) (Np (s.heap.objs.size+1) scope.names []) (vy (k_ qual scope s.heap.objs.size f cd).kindOf (ps.zip us) λ_=>Ye) s1):
  Inv (nZ CX P w K mg base N qual scope f cd A outer s H E) [] (start N vs) H s1:=by
 have hpl:ps.length<=N.length:=by have:=congrArg tV S.pre;rw[Y7]at this;omega
 obtain⟨h1,tk,rfl,hk⟩:=x.done;have Em:∀b:Yq,b∉(nZ CX P w K mg base N qual scope f cd A outer s H E).ex:=λb z=>absurd (show b∈([]:List Yq)from z) (by simp);refine⟨⟨e0.mod,S.kind,rfl,rfl,Yt _,λy z c h1 h2=>?_,λy hy=>?_,λy c _ h=>?_,λ_=>hd,Around.frames_deeper e0.frames,.inr ⟨rfl,rfl⟩,λb z=>absurd z (Em b),e0.bs,e0.nW,λb _ _=>Em b,λb z=>absurd z (Em b),e0.jL,e0.qw⟩,
  rfl,e0.bare,Un.kept hk,⟨_,x.toInCall.ns,λi y v h1 h2 h3=>?_⟩,λy c h=>⟨_,x.cell y c h⟩,e0.hok.fresh (Yt _),λy c h=>?_,λp hp=>absurd (show p∈([]:List (Yq×aB))from hp) (by simp),e0.hok.kept hk,?_⟩
 .exact name_of_addr x.apart (tG h1) (tG h2)
 .have hy:scope.names.lookup y=Ya .cell\/scope.names.lookup y=Ya .free:=hy;rcases hy with hy|hy
  .exact Y_ hy
  .exact absurd rfl (S.Ac7 _ (tG hy))
 .exact N6 (x.above y c (tG h))
 .have hi:i<vs.length:=by
   unfold start at h2;by_cases hi:i<vs.length
   .exact hi
   .rw[xu (by simpa using hi)]at h2;rw[Hw]at h2;split at h2<;>cases h2
  have ha:vs[i]?=Ya v:=by
   unfold start at h2;rw[Y6 (by simpa using hi),gO]at h2;cases e:vs[i]? with
   |none=>rw[e]at h2;cases h2|some a=>rw[e]at h2;cases h2;rfl
  obtain⟨u,hu,rv⟩:=r.get ha;have hp:ps[i]?=Ya y:=by rw[←S.pre,xG (by exact lC 2 2203874037777 T1 hi hl)];exact h1
  have ZC:ps.Nodup:=by rw[←S.pre];exact S.nd.sublist (VF _ _)
  refine⟨u,rv,?_⟩;rcases S.YS y (q8 hp)with k|k
  .exact .inl ⟨k,YX ZC hp hu k⟩
  .obtain⟨c,e⟩:=Y_ (n:=s.heap.objs.size+1) k;refine .inr ⟨.inl k,c,e,?_⟩;have q:=x.cell y c e;rw[YZ ZC hp hu (by show scope.names.lookup y≠_;rw[k];decide)]at q;exact q
 .exact e0.hok.fresh (N6 (x.above y c (tG h)))
 .unfold start;show _=N.length;rw[Yi,Yg,Vs];exact Y9 (lC 1 2206541614113 T1 (nQ (lC 2 1236986302465 T1 hpl hl))) (lC 1 1288492400641 T1 (o_ _ _))
theorem Jx{CX:nY}{k:Nat}{f:Yq}{name qual:aj}{params:Arguments}{body:List Yd2}{scope:Scope}{dV kV doc pm cdv ct oc:Yd}{an od:Option Yq}{osl:Array (Option Yd)}{N:List aj}{sp:Sp}(lk:K.lookup f=Ya ⟨oc,od,.func (qY name qual params body scope dV kV doc pm an cdv ct),osl⟩)(hcd:CJ K cdv qual=true)(S:eU N ps scope)(len:∀vs H Q E,sp vs H Q E->vs.length=ps.length)(hbody:∀(A:bB) (outer:List cH) (s:Yf) (H:Hp) (vs:List V) (Q:VK) (E:XK),cL k (A.deeper (k_ qual scope s.heap.objs.size f cdv))->sp vs H Q E ->
   ∃t,jd (nZ CX P w K mg base N qual scope f cdv A outer s H E) body t/\t {nx:=λ_ H'=>Q .non H',rt:=Q} (start N vs) H):
  fC P w K mg base CX (k+1) f (qY name qual params body scope dV kV doc pm an cdv ct) ps sp:=by
 refine⟨len,λA outer s H args us vs Q E hr e0 hb r hsp=>?_⟩;have hl:=len _ _ _ _ hsp;have KX:K.In s.heap:=e0.mod.vM.keeps λb o e=>(e0.bs b o e).1;have lim:s.heap.NoLimit:=e0.mod.nolimit.keeps λb o e=>(e0.bs b o e).1;have hkind:∀y∈ps.zip us,scope.names.lookup y.1=Ya .local\/(scope.names.lookup y.1=Ya .cell/\((Np (s.heap.objs.size+1) scope.names []).lookup y.1).isSome=true):=λ⟨n,v⟩ hy=>by
  rcases S.YS n (Dk hy).1 with q|q
  .exact .inl q
  .exact .inr ⟨q,Ux _ _ _ (.inl q)⟩
 refine codeAny_call_function hr.depth (KX _ _ lk) rfl S.co S.gen rfl (PySem.W.codeRec_of KX hcd) (hb _ _ _ _ ?_);refine wpAny_newFunctionEnv_cells S.kind hkind λenv he s1 x=>?_;subst he;refine⟨lim.keeps x.toInCall.keep,codeAny_func ?_⟩;obtain⟨t,ht,hq⟩:=hbody A outer s H vs Q E (hr.deeper _) hsp;have I:Inv (nZ CX P w K mg base N qual scope f cdv A outer s H E) [] (start N vs) H s1:=Zmz S hr.hd e0 hl r x;refine eO (ht [] s1 (start N vs) H _ I hq) (λfl s' hs=>?_) λe s' hs=>hs;have fin:∀{σ':St} {H':Hp} {v:V} {u:Yd},Inv (nZ CX P w K mg base N qual scope f cdv A outer s H E) [] σ' H' s'->RelV v u->Q v H'->CE outer P w H s Q u s':=λ{σ' H' v u} J rv q=>⟨v,H',J.os,J.bare,J.base,J.hok,rv,q⟩;cases fl with
 |ret u=>obtain⟨v,σ',H',J,rv,q⟩:=hs;exact fin J rv q|next=>obtain⟨σ',H',J,q⟩:=hs;exact fin (v:=V.non) (u:=Value.none) J rfl q|brk=>obtain⟨_,_,_,q⟩:=hs;exact dH q|cont=>obtain⟨_,_,_,q⟩:=hs;exact dH q
end L2
namespace L2
open PySem PySem.Spec PyProof.Rows
section
variable {X:Cx} {x:aj} {p pos:aY} {e:Expr} {es:List Expr} {t:TA} {id T:String} {r:List V->Hp->VK->Prop}
def zW(r:List V->Hp->VK->Prop)(t:TA):TE:=λσ H Q=>t σ H λvs H1=>r vs H1 Q
theorem Qf(hc:cg X (.builtin id) r)(hg:Gl X x)(hm:X.mg x=Ye)(hv:gb x=Ya (.builtin id))(ha:PA X (e::es) t)(hn:x≠ "__name__":=by decide)(hdb:(x==("__debug__":aj))=false:=by decide)(he:Yp (e::es) X.env=(false,aF e X.env)::Yp es X.env:=by rfl)(hpl:(bN pos (Yp es X.env)).any (·.1)=false:=by rfl):PE X (.Call (.Name x p) (e::es) [] pos) (zW r t):=by intro pins s σ H Q I h;refine CK (zT I hg hm hv ?_ hn hdb);exact Wo (aP (ha pos pins s σ H _ I h) λus s1 ⟨vs,H1,I1,r1,q1⟩=>hc pins s1 σ H1 vs us Q I1 r1 q1) he hpl
theorem ZmS(hc:cg X (.type T) r)(hg:Gl X x)(hm:X.mg x=Ye)(hv:gb x=Ya (.type T))(ha:PA X (e::es) t)(hn:x≠ "__name__":=by decide)(hdb:(x==("__debug__":aj))=false:=by decide)(he:Yp (e::es) X.env=(false,aF e X.env)::Yp es X.env:=by rfl)(hpl:(bN pos (Yp es X.env)).any (·.1)=false:=by rfl):PE X (.Call (.Name x p) (e::es) [] pos) (zW r t):=by intro pins s σ H Q I h;refine CK (zT I hg hm hv ?_ hn hdb);exact Og (aP (ha pos pins s σ H _ I h) λus s1 ⟨vs,H1,I1,r1,q1⟩=>hc pins s1 σ H1 vs us Q I1 r1 q1) he hpl
end
end L2
namespace HT
open PySem PyProof.Rows
section
variable {prog:Y3} {w:aO} {A:bB} {E:Yd->Yf->Prop} {s:Yf}
theorem AcV{t b:Yq}{vs ws:List Yd}{Q:Yd->Yf->Prop}(ht:IsTup s.heap t vs.toArray)(hb:IsTup s.heap b ws.toArray)(hv:vs≠[])(h1:ws=[]->Q (.ref t) s)(h2:ws≠[]->Q (.ref s.heap.objs.size) {s with heap:=s.heap.push {cls:=.type "tuple",data:=.seq (vs++ws).toArray}})(hsz:vs.length+ws.length<=bj):Y8 (ao prog w) A (ig .Add (.ref t) (.ref b)) Q E s:=by
 obtain⟨⟨cls,dd,data,sl⟩,ho,hc,n,hd⟩:=id ht;obtain⟨⟨cls2,dd2,data2,sl2⟩,ho2,hc2,n2,hd2⟩:=id hb;simp only at hc hd hc2 hd2;subst hc hd hc2 hd2;have e:vs.toArray++ws.toArray=(vs++ws).toArray:=by simp
 by_cases hw:ws=[]
 .exact M7 ⟨_,ho,rfl⟩ ⟨_,ho2,rfl⟩ MP M6 Ot Oq (Oo _ _)
   (tuple_addW1 t b vs.toArray ws.toArray n n2 dd dd2 sl sl2 (by simpa using hv) (by simp[hw])) ⟨ho,ho2,h1 hw⟩
 .refine M7 ⟨_,ho,rfl⟩ ⟨_,ho2,rfl⟩ MP M6 Ot Oq (Oo _ _)
   (tuple_addW2 t b vs.toArray ws.toArray n n2 dd dd2 sl sl2 (by simpa using hv) (by simpa using hw) (by rw[Yl,Yl];exact hsz)) ⟨ho,ho2,?_⟩
  rw[e];exact h2 hw
noncomputable def aG(n d:Nat):Option Int->Nat
 |none=>d|some v=>if v<0 then(v+(n:Int)).toNat else dm v.toNat n
theorem Qg(n d:Nat):aG n d Ye=d:=rfl
theorem En(n d k:Nat):aG n d (Ya (k:Int))=dm k n:=by show(if(k:Int)<0 then((k:Int)+(n:Int)).toNat else dm (k:Int).toNat n)=dm k n;rw[if_neg (Od.2 (vH _)),Dv]
theorem Jy(n d:Nat)(hd:d<=n)(o:Option Int):aG n d o<=n:=by
 cases o with
 |none=>exact hd|some v=>
  show(if v<0 then(v+(n:Int)).toNat else dm v.toNat n)<=n;by_cases hv:v<0
  .rw[if_pos hv];omega
  .rw[if_neg hv];exact Dq _ _
theorem ZD(v:Int)(n d:Nat):(if v<0 then max (v+(n:Int)) 0 else dm v (n:Int))=((aG n d (Ya v):Nat):Int):=by
 show(if v<0 then max (v+(n:Int)) 0 else dm v (n:Int))=(((if v<0 then(v+(n:Int)).toNat else dm v.toNat n):Nat):Int);by_cases hv:v<0
 .simp only[if_pos hv];exact Xx _
 .simp only[if_neg hv];exact Xy _ _ hv
theorem Zky(lo hi:Option Int)(n:Nat):Ox lo hi 1 (n:Int)=(((aG n 0 lo:Nat):Int),((aG n n hi:Nat):Int)):=by
 have h1:¬((1:Int)<0):=by decide
 unfold Ox;simp only[h1,if_false];refine Prod.ext ?_ ?_
 .cases lo with
  |none=>rfl|some v=>exact ZD v n 0
 .cases hi with
  |none=>rfl|some v=>exact ZD v n n
theorem ZkP(i j:Nat):IV (i:Int) (j:Int) 1=j-i:=by
 unfold IV;have h1:(1:Int)>0:=by decide
 simp only[h1,if_true,Int.ediv_one];split <;>omega
theorem ZF{v:Yd}{o:Option Int}{Q:Option Int->Yf->Prop}(p:IsPart v o)(h:Q o s):Y8 (ao prog w) A (Builtin.Slice.slicePartIndex v) Q E s:=by
 cases p with
 |none=>exact slicePart_none h|int i t=>exact slicePart_int h
theorem Te{sl:Yq}{vl vu:Yd}{lo hi:Option Int}{n:Nat}{Q:Int×Int×Nat->Yf->Prop}(hs:s.heap.IsSliceOf sl vl vu .none)(pl:IsPart vl lo)(pu:IsPart vu hi)(h:Q (((aG n 0 lo:Nat):Int),1,aG n n hi-aG n 0 lo) s):Y8 (ao prog w) A (WY (.ref sl) (pure (n:Int))) Q E s:=by obtain⟨os,hos,hcs,hds⟩:=id hs;unfold WY Builtin.Slice.sliceFields;refine Yc (Yc (h_ hos hds (x:=vl) rfl (Yc (h_ hos hds (x:=vu) rfl (Yc (h_ hos hds (x:=.none) rfl (Yr ?_)))))));refine Yc (slicePart_none ?_);show Y8 _ _ (if((1:Int)==0)=true then _ else _) _ _ s;rw[if_neg (by decide)];refine Yc (ZF pl (Yc (ZF pu (Yc (Yr ?_)))));show Y8 _ _ (match Ox lo hi 1 (n:Int)with|(lo,hi)=>pure (lo,(1:Int),IV lo hi 1)) _ _ s;rw[Zky lo hi n];show Y8 _ _ (pure (((aG n 0 lo:Nat):Int),(1:Int),IV ((aG n 0 lo:Nat):Int) ((aG n n hi:Nat):Int) 1)) _ _ s;rw[ZkP];exact Yr h
theorem Zoe(xs:Array Yd)(i k:Nat):((kW k).filterMap λ(m:Nat)=>xs[((i:Int)+(m:Int)*1).toNat]?).toArray=((xs.toList.drop i).take k).toArray:=by
 have e:(λ(m:Nat)=>xs[((i:Int)+(m:Int)*1).toNat]?)=λm=>xs[i+m]?:=by
  funext m;have:((i:Int)+(m:Int)*1).toNat=i+m:=by omega
  rw[this]
 rw[e];have:=pick_run xs i k;rw[List.filterMap_map]at this;have e2:((λx=>xs[x]?) ∘ λx=>i+x)=λm=>xs[i+m]?:=rfl;rw[e2]at this;rw[this]
theorem Aaj{t sl:Yq}{items:Array Yd}{vl vu:Yd}{lo hi:Option Int}{Q:Yd->Yf->Prop}(ht:IsTup s.heap t items)(hs:s.heap.IsSliceOf sl vl vu .none)(pl:IsPart vl lo)(pu:IsPart vu hi)(hw:¬(aG items.size 0 lo=0/\aG items.size items.size hi=items.size))(h:Q (.ref s.heap.objs.size) {s with heap:=s.heap.push {cls:=.type "tuple",data:=.seq ((items.toList.drop (aG items.size 0 lo)).take (aG items.size items.size hi-aG items.size 0 lo)).toArray}})(hsz:items.size<=bj):Y8 (ao prog w) A (oZ (.ref t) (.ref sl)) Q E s:=by
 have GD:sizeOk (.seq ((items.toList.drop (aG items.size 0 lo)).take (aG items.size items.size hi-aG items.size 0 lo)).toArray):=by show((items.toList.drop (aG items.size 0 lo)).take (aG items.size items.size hi-aG items.size 0 lo)).toArray.size<=bj;rw[Yl,Y7,nO,Ol];exact lD 3 85606880155602945 T1 hsz (Ds _ _) (Dq _ _)
 have hj:aG items.size items.size hi<=items.size:=Jy _ _ (Yt _) hi;obtain⟨os,hos,hcs,hds⟩:=id hs;have hTs:s.TypeIs (.ref sl) "slice":=⟨os,hos,hcs⟩;unfold oZ
 try with_reducible refine jb ?_
 first|refine Yc (Yr ?_)|skip
 refine Yc (MN ht.typeIs (by decide) ?_);refine Yc (u6 (name:=jV "__getitem__") ht.typeIs Ir
  (u_ Ir ht.typeIs Wt ?_ (Wv _ _)))
 show Y8 _ _ (W4 (.ref t)>>=_) _ _ s;refine Yc (tupleItemsOf_ ht ?_);refine Yc (Hi hTs ?_);rw[if_pos (by decide)];refine Yc (Te hs pl pu ?_);have hno:¬((((aG items.size 0 lo:Nat):Int)==0&&(1:Int)==1&&(aG items.size items.size hi-aG items.size 0 lo)==items.size)=true):=by intro q;rw[gQ,gQ]at q;have q1:((aG items.size 0 lo:Nat):Int)=0:=eq_of_beq q.1.1;have q2:aG items.size items.size hi-aG items.size 0 lo=items.size:=eq_of_beq q.2;exact hw ⟨by exact Y9 (iN [_] [] 1 3759016097 T1 q1) (jU _),by exact Y9 hj (lC 2 2268279672881 T1 q2 (Ds _ _))⟩
 show Y8 _ _ (if(((aG items.size 0 lo:Nat):Int)==0&&(1:Int)==1&&(aG items.size items.size hi-aG items.size 0 lo)==items.size)=true then _ else _) _ _ s;rw[if_neg hno,Zoe]
 first
  |exact Yc (m:=IW _) (u9 (Yr ⟨_,rfl,Yr h⟩) GD)
  |exact Yc (m:=IW _) (u9 (Yc (Yr (Yr ⟨_,rfl,Yr h⟩))) GD)
  |exact Yc (Yc (m:=IW _) (u9 (Yr (Yr ⟨_,rfl,Yr h⟩)) GD))
  |exact Yc (Yc (m:=IW _) (u9 (Yr ⟨_,rfl,Yr h⟩) GD))
end
end HT
namespace L2
open PySem PySem.Spec PyProof.Rows
noncomputable abbrev TO:=St->Hp->(Option Int->Hp->Prop)->Prop
def PO(X:Cx)(e:Option Expr)(t:TO):Prop:=
 ∀(pins:List (Yq×aB)) (s:Yf) (σ:St) (H:Hp) (Q:Option Int->Hp->Prop),Inv X pins σ H s->t σ H Q ->
  Y8 (ao X.prog X.w) X.A (evalPart e X.env) (λu s'=>∃o H',Inv X pins σ H' s'/\IsPart u o/\Q o H') X.xe s
def Zqo:TO:=λ_ H Q=>Q Ye H
def Zt2(t:TE):TO:=λσ H Q=>t σ H λx H1=>∃i,x= .int i/\Q (Ya i) H1
section
variable {X:Cx} {e:Expr} {te:TE} {lo hi:Option Expr} {tl th:TO} {pos p2:aY}
theorem ZpR:PO X Ye Zqo:=by intro pins s σ H Q I h;rw[evalPart_none];exact Yr ⟨Ye,H,I,.none,h⟩
theorem Zp6(h:PE X e te):PO X (Ya e) (Zt2 te):=by intro pins s σ H Q I hw;rw[evalPart_some];refine aP (h pins s σ H _ I hw) λu s1 ak=>?_;obtain⟨x,H1,I1,r1,q1⟩:=ak;obtain⟨i,rfl,q⟩:=q1;obtain⟨t,rfl⟩:=r1;exact⟨Ya i,H1,I1,.int i t,q⟩
def jw(X:Cx)(r:V->Option Int->Option Int->Hp->VK->Prop):Prop:=
 ∀(pins:List (Yq×aB)) (s:Yf) (σ:St) (H:Hp) (x:V) (v vl vu:Yd) (lo hi:Option Int) (sl:Yq) (Q:VK),Inv X pins σ H s->RelV x v->s.heap.IsSliceOf sl vl vu .none->IsPart vl lo->IsPart vu hi->r x lo hi H Q ->
  ∃T id,Ni (.type T) "__getitem__" =pure (Ya (.builtin id))/\s.TypeIs v T/\Y8 (ao X.prog X.w) X.A (oZ v (.ref sl)) (EP X pins σ Q) X.xe s
theorem jw.or{r r':V->Option Int->Option Int->Hp->VK->Prop}(h:jw X r)(h':jw X r'):jw X (λx lo hi H Q=>r x lo hi H Q\/r' x lo hi H Q):=by
 intro pins s σ H x v vl vu lo hi sl Q I rx hs pl pu q;rcases q with q|q
 .exact h pins s σ H x v vl vu lo hi sl Q I rx hs pl pu q
 .exact h' pins s σ H x v vl vu lo hi sl Q I rx hs pl pu q
def tSl(r:V->Option Int->Option Int->Hp->VK->Prop)(te:TE)(tl th:TO):TE:=λσ H Q=>te σ H λx H1=>tl σ H1 λl H2=>th σ H2 λu H3=>r x l u H3 Q
theorem Zn3{r:V->Option Int->Option Int->Hp->VK->Prop}(hr:jw X r)(he:PE X e te)(hl:PO X lo tl)(hu:PO X hi th):PE X (.Subscript e (.Slice lo hi Ye p2) pos) (tSl r te tl th):=by intro pins s σ H Q I h;refine Oi (aP (he pins s σ H _ I h) λv s1 ak=>?_);obtain⟨x,H1,I1,r1,q1⟩:=ak;refine wpAny_Slice (aP (hl pins s1 σ H1 _ I1 q1) λvl s2 ⟨l,H2,I2,pl,q2⟩=>aP (hu pins s2 σ H2 _ I2 q2) λvu s3 ak=>?_);obtain⟨u,H3,I3,pu,q3⟩:=ak;rw[evalPart_none];refine Yr ?_;have I4:Inv X pins σ H3 {s3 with heap:=s3.heap.push {cls:=.type "slice",data:=.fields #[vl,vu,.none]}}:=I3.kept (t':=s3.toks) λb ob q=>Yh _ q;obtain⟨T,id,hT,ht,hg⟩:=hr pins {s3 with heap:=s3.heap.push {cls:=.type "slice",data:=.fields #[vl,vu,.none]}} σ H3 x v vl vu l u s3.heap.objs.size Q I4 r1 (Heap.IsSliceOf.new ..) pl pu q3;show Y8 (ao X.prog X.w) X.A (Oh e (.Slice lo hi Ye p2) v (.ref s3.heap.objs.size)) (EP X pins σ Q) X.xe {s3 with heap:=s3.heap.push {cls:=.type "slice",data:=.fields #[vl,vu,.none]}};exact tail_any (ops:=[.ref s3.heap.objs.size,v]) ht hT hg (by with_unfolding_all rfl)
noncomputable def vR(xs:List V)(lo hi:Option Int):List V:=(xs.drop (HT.aG xs.length 0 lo)).take (HT.aG xs.length xs.length hi-HT.aG xs.length 0 lo)
theorem ZG(xs:List V)(lo hi:Option Int):(vR xs lo hi).length<=xs.length:=by unfold vR;rw[Y7,nO];exact Ym (Dq _ _) (Ds _ _)
noncomputable def Zwg(K:Yb):V->Option Int->Option Int->Hp->VK->Prop:=λx lo hi H Q=>∃a xs,x= .ref a/\cJ K H a xs/\
 ¬(HT.aG xs.length 0 lo=0/\HT.aG xs.length xs.length hi=xs.length)/\∀p,H p=Ye->Q (.ref p) (upd H p (.tup (vR xs lo hi)))
theorem ZJ:jw X (Zwg X.K):=by
 intro pins s σ H x v vl vu lo hi sl Q I rx hs pl pu h;obtain⟨a,xs,rfl,hx,hw,q⟩:=h;cases rx;obtain⟨its,r,ht,hz⟩:=I.tuple hx;have hlen:its.toArray.size=xs.length:=by rw[Yl];exact r.length.symm
 refine⟨"tuple",_,PyProof.Rows.slot_tuple_getitem.lookup,ht.typeIs,?_⟩;refine HT.Aaj ht hs pl pu (by rw[hlen];exact hw) ?_ (by rw[hlen];exact hz);rw[hlen];refine⟨.ref s.heap.objs.size,_,I.laid (t':=s.toks) (o:=.tup (vR xs lo hi)) (λb ob q=>Yh _ q) (Yt _) ?_,rfl,q _ (I.hok.fresh (Yt _))⟩;exact⟨Ym (ZG xs lo hi) hz,_,(r.drop (HT.aG xs.length 0 lo)).take (HT.aG xs.length xs.length hi-HT.aG xs.length 0 lo),rF.new _ _⟩
def Zt3(K:Yb):R2:=λx y H Q=>∃a b xs ys,x= .ref a/\y= .ref b/\cJ K H a xs/\cJ K H b ys/\xs≠[]/\xs.length+ys.length<=bj/\
 (ys=[]->Q (.ref a) H)/\(ys≠[]->∀p,H p=Ye->Q (.ref p) (upd H p (.tup (xs++ys))))
theorem Vals.Mp{xs:List V}{us:List Yd}(r:Vals xs us):us=[]↔xs=[]:=by
 cases r with
 |nil=>simp|cons _ _=>simp
theorem ZpO:bf X (ig .Add) (Zt3 X.K):=by intro pins s σ H x y v u Q I rx ry h;obtain⟨a,b,xs,ys,rfl,rfl,ha,hb,hx,hz,q1,q2⟩:=h;cases rx;cases ry;obtain⟨its,r1,p1,_⟩:=I.tuple ha;obtain⟨its2,r2,p2,_⟩:=I.tuple hb;refine HT.AcV p1 p2 (λz=>hx (r1.Mp.mp z)) (λz=>⟨.ref a,H,I,rfl,q1 (r2.Mp.mp z)⟩) (λz=>?_) (by rw[←r1.length,←r2.length];exact hz);refine⟨.ref s.heap.objs.size,_,I.laid (t':=s.toks) (o:=.tup (xs++ys)) (λb ob q=>Yh _ q) (Yt _) ?_,rfl,q2 (λw=>z (r2.Mp.mpr w)) _ (I.hok.fresh (Yt _))⟩;exact⟨by rw[Yi];exact hz,_,r1.append r2,rF.new _ _⟩
end
end L2
namespace L2
open PySem PySem.Spec PyProof.Rows
noncomputable def zX(n:Nat)(i:Int):Option Nat:=if 0<=i then(if i<n then Ya i.toNat else Ye)else if -(n:Int)<=i then Ya (i+n).toNat else Ye
noncomputable def xT{α:Type}(xs:List α)(i:Int):Option α:=(zX xs.length i).bind λj=>xs[j]?
theorem Qh{n:Nat}{i:Int}{j:Nat}(h:zX n i=Ya j):Nq i n=Ya j/\j<n/\ -(n:Int)<=i/\i<n:=by
 unfold zX at h;by_cases h0:0<=i
 .rw[if_pos h0]at h;by_cases h1:i<n
  .rw[if_pos h1]at h;have e:i.toNat=j:=eE h;exact⟨by rw[Nb h0 h1,e],by exact iN [_,_,_] [_] 3 0x211008a1280911031 T1 e h1 (tY h0),by exact iN [_] [_] 1 144182913 T1 h0,h1⟩
  .rw[if_neg h1]at h;cases h
 .rw[if_neg h0]at h;by_cases h1:-(n:Int)<=i
  .rw[if_pos h1]at h;have e:(i+n).toNat=j:=eE h;exact⟨by rw[M8 (by exact zJ.1 h0) h1,e],by exact iN [_,_,_] [_] 3 0x211280c08a10ec11031 T1 e h0 (tY (iN [_] [_] 1 8851524979073 T1 h1)),h1,by exact iN [_] [_] 1 134811329 T1 h0⟩
  .rw[if_neg h1]at h;cases h
theorem Zip{α:Type}{xs:List α}{i:Int}{v:α}(h:xT xs i=Ya v):∃j,Nq i xs.length=Ya j/\xs[j]?=Ya v/\j<xs.length/\ -(xs.length:Int)<=i/\i<xs.length:=by
 unfold xT at h;cases e:zX xs.length i with
 |none=>rw[e]at h;cases h|some j=>rw[e]at h;obtain⟨h1,h2,h3,h4⟩:=Qh e;exact⟨j,h1,h,h2,h3,h4⟩
def ZK(b:Expr):Prop:=∀o i,Hj b false o i=operate [o,i] (oZ o i)
def lG(X:Cx)(r:R2):Prop:=
 ∀(value slice:Expr) (pins:List (Yq×aB)) (s:Yf) (σ:St) (H:Hp) (x y:V) (v u:Yd) (Q:VK),Inv X pins σ H s->RelV x v->RelV y u->r x y H Q ->
  Hj slice false v u=operate [v,u] (oZ v u)->Y8 (ao X.prog X.w) X.A (Oh value slice v u) (EP X pins σ Q) X.xe s
def mQ(X:Cx)(id:String)(r:V->List V->Hp->VK->Prop):Prop:=
 ∀(pins:List (Yq×aB)) (s:Yf) (σ:St) (H:Hp) (x:V) (xs:List V) (v:Yd) (us:List Yd) (Q:VK),Inv X pins σ H s->RelV x v->Vals xs us->r x xs H Q ->
  Y8 (ao X.prog X.w) X.A (call (.builtin id) (v::us)) (EP X pins σ Q) X.xe s
section
variable {X:Cx} {a b:Expr} {ta tb:TE} {pos:aY}
theorem lG.or{r r':R2}(h:lG X r)(h':lG X r'):lG X (λx y H Q=>r x y H Q\/r' x y H Q):=by
 intro value slice pins s σ H x y v u Q I rx ry q hs;rcases q with q|q
 .exact h value slice pins s σ H x y v u Q I rx ry q hs
 .exact h' value slice pins s σ H x y v u Q I rx ry q hs
theorem Zui{r:R2}(hr:lG X r)(ha:PE X a ta)(hb:PE X b tb)(hs:ZK b):PE X (.Subscript a b pos) (Ei r ta tb):=by intro pins s σ H Q I h;exact Oi (PN ha hb I h λv u s2 x y H2 I2 rx ry q=>hr a b pins s2 σ H2 x y v u Q I2 rx ry q (hs _ _))
def ZL(K:Yb):R2:=λx y H Q=>∃p xs i v,x= .ref p/\y= .int i/\bQ K H p xs/\xT xs i=Ya v/\Q v H
def ZM(K:Yb):R2:=λx y H Q=>∃p xs i v,x= .ref p/\y= .int i/\cJ K H p xs/\xT xs i=Ya v/\Q v H
def ZP:R2:=λx y H Q=>∃z i c,x= .str z/\y= .int i/\z.length<=bj/\xT z.cps.toList i=Ya c/\Q (.str ⟨#[c]⟩) H
theorem ZpT:lG X (ZL X.K):=by
 intro value slice pins s σ H x y v u Q I rx ry h hs;obtain⟨p,xs,i,z,rfl,rfl,hq,he,q⟩:=h;cases rx;obtain⟨t,rfl⟩:=ry;obtain⟨its,r,pl,hz⟩:=I.list hq;obtain⟨j,h1,h2,h3,h4,h5⟩:=Zip he;obtain⟨w,ew,jg⟩:=r.get h2;have hl:=r.length;have hn:=Ek;have fin:EP X pins σ Q w s:=⟨z,H,I,jg,q⟩;by_cases h0:0<=i
 .have hj:i.toNat=j:=by
   rw[Nb h0 h5]at h1;exact eE h1
  exact item_listR pl.isList h0 (by omega) (by rw[hj];simpa using ew) fin hs
 .have hj:(i+(its.toArray.size:Int)).toNat=j:=by
   rw[M8 (by exact zJ.1 h0) h4]at h1;rw[Yl,←hl];exact eE h1
  exact Wr (x:=w) pl.isList.typeIs slot_list_getitem.lookup
   (wpAny_getItem_list_neg (Q:=λr s'=>r=w/\EP X pins σ Q r s') pl.isList (by exact zJ.1 h0) (by rw[Yl]<;>exact iN [_,_] [_] 2 6922527515414561 T1 hl h4) (by omega) (by rw[hj];simpa using ew) ⟨rfl,fin⟩) hs
theorem Zsn:lG X (ZM X.K):=by
 intro value slice pins s σ H x y v u Q I rx ry h hs;obtain⟨p,xs,i,z,rfl,rfl,hq,he,q⟩:=h;cases rx;obtain⟨t,rfl⟩:=ry;obtain⟨its,r,pl,hz⟩:=I.tuple hq;obtain⟨j,h1,h2,h3,h4,h5⟩:=Zip he;obtain⟨w,ew,jg⟩:=r.get h2;have hl:=r.length;have hn:=Ek;have fin:EP X pins σ Q w s:=⟨z,H,I,jg,q⟩;exact Wr (x:=w) pl.typeIs slot_tuple_getitem.lookup
  (getItem_tuple (j:=j) (Q:=λr s'=>r=w/\EP X pins σ Q r s') pl (by omega) (by omega) (by rw[Yl,←hl];exact h1) (by simpa using ew) ⟨rfl,fin⟩) hs
theorem Zsb:lG X ZP:=by
 intro value slice pins s σ H x y v u Q I rx ry h hs;obtain⟨z,i,c,rfl,rfl,hz,he,q⟩:=h;obtain⟨t,rfl⟩:=rx;obtain⟨t',rfl⟩:=ry;obtain⟨j,h1,h2,h3,h4,h5⟩:=Zip he;have hl:z.cps.toList.length=z.length:=by simp[jW]
 rw[hl]at h1 h4 h5;have hn:=Ek;exact tail_any (zj s z t) slot_str_getitem.lookup (getItem_str (c:=c) (by have e1:decide (i< -(2^63:Int))=false:=decide_eq_false (by omega);have e2:decide (i>=2^63)=false:=decide_eq_false (by omega);rw[e1,e2,Wd]) (by rw[h1];simpa using h2) ⟨.str ⟨#[c]⟩,H,I.tok _,⟨_,rfl⟩,q⟩) hs
def rIx(K:Yb):R2:=λx y H Q=>ZL K x y H Q\/ZM K x y H Q\/ZP x y H Q
theorem ZsO:lG X (rIx X.K):=ZpT.or (Zsn.or Zsb)
theorem Zkm(its:List Yd)(n j:Nat)(u:Yd):DP (·.setIfInBounds j u) {cls:=.type "list",data:=.seq its.toArray n}={cls:=.type "list",data:=.seq (its.set j u).toArray n}:=by simp[DP]
theorem Inv.lst{pins:List (Yq×aB)}{σ:St}{H:Hp}{s:Yf}{p:Yq}{xs:List V}(I:Inv X pins σ H s)(h:H p=Ya (.lst xs)):
  ∃(its:List Yd) (n:Nat),Vals xs its/\s.heap.get? p=Ya {cls:=.type "list",data:=.seq its.toArray n}/\xs.length<=bj:=by
 obtain⟨z,its,n,r,e⟩:=I.hok p _ h;exact⟨its,n,r,e,z⟩
theorem Inv.Ac8{pins:List (Yq×aB)}{σ:St}{H:Hp}{s:Yf}{p:Yq}{xs ys:List V}{its its':List Yd}{n n':Nat}{f:aB->aB}(I:Inv X pins σ H s)(h:H p=Ya (.lst xs))(ho:s.heap.get? p=Ya {cls:=.type "list",data:=.seq its.toArray n})(hf:f {cls:=.type "list",data:=.seq its.toArray n}={cls:=.type "list",data:=.seq its'.toArray n'})(r:Vals ys its')(hz:ys.length<=bj)(t:Nat):
  Inv X pins σ (upd H p (.lst ys)) {s with heap:=s.heap.update p f,toks:=t}:=by
 have e:(s.heap.update p f).get? p=Ya {cls:=.type "list",data:=.seq its'.toArray n'}:=by rw[zA f ho (by rw[hf]<;>rfl),hf]
 refine I.write (x:=p) (e:=p) (by rw[h];trivial) (.inl rfl) (λb u hb q=>(xK _ _ (cQ hb)).trans q) ⟨_,e⟩ ?_;exact⟨hz,its',n',r,e⟩
noncomputable def ZtO:V->V->V->Hp->(Hp->Prop)->Prop:=λo i v H Q=>∃p xs k j,o= .ref p/\i= .int k/\H p=Ya (.lst xs)/\zX xs.length k=Ya j/\Q (upd H p (.lst (xs.set j v)))
theorem set_list:YC X ZtO:=by
 intro pins s σ H o i v ov iv u Q I ro ri rv h;obtain⟨p,xs,k,j,rfl,rfl,hp,hj,q⟩:=h;cases ro;obtain⟨t,rfl⟩:=ri;obtain⟨its,n,r,ho,hz⟩:=I.lst hp;obtain⟨h1,h2,h3,h4⟩:=Qh hj;have hl:=r.length;have hn:=Ek;have I':Inv X pins σ (upd H p (.lst (xs.set j v))) {s with heap:=s.heap.update p (DP (·.setIfInBounds j u))}:=I.Ac8 hp ho (Zkm its n j u) (r.set rv j) (by rw[vB];exact hz) s.toks;by_cases h0:0<=k
 .have hk:k.toNat=j:=by
   rw[Nb h0 h4]at h1;exact eE h1
  exact PySem.W.ki_setAt ho h0 (by omega) (by rw[Yl,←hl];exact h4) (by rw[hk];exact⟨_,I',q⟩)
 .have hk:(k+(its.toArray.size:Int)).toNat=j:=by
   rw[M8 (by exact zJ.1 h0) h3]at h1;rw[Yl,←hl];exact eE h1
  exact PySem.W.ki_setBack ho (by exact zJ.1 h0) (by rw[Yl,←hl];exact h3) (by omega) (by rw[hk];exact⟨_,I',q⟩)
theorem ZiM(lo hi:Option Int)(n:Nat):(w6 lo hi Ye n).1=((HT.aG n 0 lo:Nat):Int)/\(w6 lo hi Ye n).2.1=((HT.aG n n hi:Nat):Int)/\(w6 lo hi Ye n).2.2=1:=by
 refine⟨?_,?_,rfl⟩
 .cases lo with
  |none=>simp[w6,HT.aG]|some i=>
   simp only[w6,HT.aG,Uv,show(1:Int)>0 by decide,if_true];by_cases h:i<0
   .simp only[h,if_true]<;>exact Pg _ _ h
   .simp only[h,if_false]<;>exact Ph _ _ h
 .cases hi with
  |none=>simp[w6,HT.aG]|some i=>
   simp only[w6,HT.aG,Uv,show(1:Int)>0 by decide,if_true];by_cases h:i<0
   .simp only[h,if_true]<;>exact Pg _ _ h
   .simp only[h,if_false]<;>exact Ph _ _ h
theorem Zhl(its:List Yd)(lo hi:Option Int):slicePick its.toArray lo hi Ye=((its.drop (HT.aG its.length 0 lo)).take (HT.aG its.length its.length hi-HT.aG its.length 0 lo)).toArray:=by obtain⟨h1,h2,h3⟩:=ZiM lo hi its.toArray.size;unfold slicePick;rw[h1,h2,h3];simp only[sliceRange_one,pick_run,Yl]<;>rfl
noncomputable def ZvZ(K:Yb):V->Option Int->Option Int->Hp->VK->Prop:=λx lo hi H Q=>∃a xs,x= .ref a/\bQ K H a xs/\∀p,H p=Ye->Q (.ref p) (upd H p (.lst (vR xs lo hi)))
theorem Zpw:jw X (ZvZ X.K):=by intro pins s σ H x v vl vu lo hi sl Q I rx hs pl pu h;obtain⟨a,xs,rfl,hx,q⟩:=h;cases rx;obtain⟨its,r,ht,hz⟩:=I.list hx;have hlen:=r.length;refine⟨"list",_,slot_list_getitem.lookup,ht.isList.typeIs,?_⟩;refine wpAny_getItem_list_slice ht.isList hs pl pu .none (by simp) ?_ (by rw[Yl]<;>exact lC 2 2268279672881 T1 hlen hz);rw[Zhl,←hlen];refine⟨.ref s.heap.objs.size,_,I.laid (t':=s.toks) (o:=.lst (vR xs lo hi)) (λb ob q=>Yh _ q) (Yt _) ?_,rfl,q _ (I.hok.fresh (Yt _))⟩;exact⟨Ym (ZG xs lo hi) hz,_,0,(r.drop (HT.aG xs.length 0 lo)).take (HT.aG xs.length xs.length hi-HT.aG xs.length 0 lo),Yw _ rfl⟩
noncomputable def rJ:V->Bool
 | .non=>true|.bl _=>true|.int _=>true|.str _=>true
 |_=>false
noncomputable def ul:V->V->Bool
 | .non,.non=>true|.bl a,.bl b=>a==b|.bl a,.int b=>(if a then 1 else 0)==b|.int a,.bl b=>a==(if b then 1 else 0)
 | .int a,.int b=>a==b|.str a,.str b=>a==b|_,_=>false
theorem Zr3{A:bB}{s:Yf}{y x:V}{u v:Yd}(ry:RelV y u)(rx:RelV x v)(fy:rJ y=true)(fx:rJ x=true):vI A s u v (ul y x):=by
 cases y with
 |non=>
  cases ry
  cases x with
  |non=>cases rx;exact O6 _|bl b=>cases rx;exact W6 b|int b=>obtain⟨t,rfl⟩:=rx;exact W9 b t|str b=>obtain⟨t,rfl⟩:=rx;exact W_ b t
  |_=>exact absurd (show false=true from fx) o8
 |bl a=>
  cases ry
  cases x with
  |non=>cases rx;exact W7 a|bl b=>cases rx;exact W8 a b|int b=>obtain⟨t,rfl⟩:=rx;exact Xa a b t|str b=>obtain⟨t,rfl⟩:=rx;exact Xb a b t
  |_=>exact absurd (show false=true from fx) o8
 |int a=>
  obtain⟨t',rfl⟩:=ry;cases x with
  |non=>cases rx;exact Xc a t'|bl b=>cases rx;exact Xd a t' b|int b=>obtain⟨t,rfl⟩:=rx;exact Xg a t' b t|str b=>obtain⟨t,rfl⟩:=rx;exact O4 a t' b t
  |_=>exact absurd (show false=true from fx) o8
 |str a=>
  obtain⟨t',rfl⟩:=ry;cases x with
  |non=>cases rx;exact Xe a t'|bl b=>cases rx;exact Xf a t' b|int b=>obtain⟨t,rfl⟩:=rx;exact O5 a t' b t|str b=>obtain⟨t,rfl⟩:=rx;exact Xh a t' b t
  |_=>exact absurd (show false=true from fx) o8
 |_=>exact absurd (show false=true from fy) o8
noncomputable def lH(x:V)(u:Yd):Bool:=match u with
 | .none=>ul .non x|.bool b=>ul (.bl b) x|.int i _=>ul (.int i) x|.str z _=>ul (.str z) x
 |_=>false
theorem ZQ{x y:V}{u:Yd}(r:RelV y u)(f:rJ y=true):lH x u=ul y x:=by
 cases y with
 |non=>cases r;rfl|bl b=>cases r;rfl|int i=>obtain⟨t,rfl⟩:=r;rfl|str z=>obtain⟨t,rfl⟩:=r;rfl
 |_=>exact absurd (show false=true from f) o8
theorem Eo{x:V}:∀{xs:List V} {us:List Yd},Vals xs us->xs.all rJ=true->us.any (lH x)=xs.any λy=>ul y x
 |_,_,.nil,_=>rfl|y::xs,u::us,.cons r t,f=>by rw[o7,gQ]at f;rw[qm,qm,ZQ r f.1,Eo t f.2]
theorem Ep{A:bB}{s:Yf}{x:V}{v:Yd}(rx:RelV x v)(fx:rJ x=true):∀{xs:List V} {us:List Yd},Vals xs us->xs.all rJ=true->∀u∈us,vI A s u v (lH x u)
 |_,_,.nil,_=>λu hu=>by cases hu|y::xs,u::us,.cons r t,f=>λu' hu=>by
  rw[o7,gQ]at f;rcases Y1.mp hu with rfl|hu
  .rw[ZQ r f.1];exact Zr3 r rx f.1 fx
  .exact Ep rx fx t f.2 u' hu
noncomputable def inV(x:V)(xs:List V):Bool:=xs.any λy=>ul y x
def Qi(K:Yb)(neg:Bool):R2:=λx y H Q=>∃p xs,y= .ref p/\(bQ K H p xs\/cJ K H p xs)/\rJ x=true/\xs.all rJ=true/\Q (.bl (if neg then !inV x xs else inV x xs)) H
theorem ZmT:bf X (gK .In) (Qi X.K false):=by
 intro pins s σ H x y v u Q I rx ry h;obtain⟨p,xs,rfl,hq,fx,fs,q⟩:=h;cases ry;rcases hq with hq|hq
 .obtain⟨its,r,pl,hz⟩:=I.list hq;refine SeqAt.in_listAt (lH x) pl.isList (λw hw=>Ep rx fx r fs w (by simpa using hw)) ⟨.bl _,H,I,rfl,?_⟩;rw[show its.toArray.any (lH x)=its.any (lH x)by simp,Eo r fs];exact q
 .obtain⟨its,r,pl,hz⟩:=I.tuple hq;refine SeqAt.in_tupleAt (lH x) pl (λw hw=>Ep rx fx r fs w (by simpa using hw)) ⟨.bl _,H,I,rfl,?_⟩;rw[show its.toArray.any (lH x)=its.any (lH x)by simp,Eo r fs];exact q
theorem Zii:bf X (gK .NotIn) (Qi X.K true):=by
 intro pins s σ H x y v u Q I rx ry h;obtain⟨p,xs,rfl,hq,fx,fs,q⟩:=h;cases ry;rcases hq with hq|hq
 .obtain⟨its,r,pl,hz⟩:=I.list hq;refine SeqAt.notIn_listAt (lH x) pl.isList (λw hw=>Ep rx fx r fs w (by simpa using hw)) ⟨.bl _,H,I,rfl,?_⟩;rw[show its.toArray.any (lH x)=its.any (lH x)by simp,Eo r fs];exact q
 .obtain⟨its,r,pl,hz⟩:=I.tuple hq;refine SeqAt.notIn_tupleAt (lH x) pl (λw hw=>Ep rx fx r fs w (by simpa using hw)) ⟨.bl _,H,I,rfl,?_⟩;rw[show its.toArray.any (lH x)=its.any (lH x)by simp,Eo r fs];exact q
theorem cg.or{f:Yd}{r r':List V->Hp->VK->Prop}(h:cg X f r)(h':cg X f r'):cg X f (λxs H Q=>r xs H Q\/r' xs H Q):=by
 intro pins s σ H xs us Q I rs q;rcases q with q|q
 .exact h pins s σ H xs us Q I rs q
 .exact h' pins s σ H xs us Q I rs q
theorem Zi5:cg X (.type "list") (λxs H Q=>∃p ys,xs=[.ref p]/\(bQ X.K H p ys\/cJ X.K H p ys)/\∀l,H l=Ye->Q (.ref l) (upd H l (.lst ys))):=by
 intro pins s σ H xs us Q I r h;obtain⟨p,ys,rfl,hq,q⟩:=h;obtain⟨u,rfl,rx⟩:=vals1 r;cases rx;have fin:∀(its:List Yd),Vals ys its->ys.length<=bj->∀(h':aq) (c':Nat),(∀b o',s.heap.get? b=Ya o'->h'.get? b=Ya o') ->
   h'.get? s.heap.objs.size=Ya {cls:=.type "list",dict:=Ye,data:=.seq its.toArray c',slots:=#[]}->EP X pins σ Q (.ref s.heap.objs.size) {s with heap:=h'}:=λits r' hz h' c' kp e=>
  ⟨.ref s.heap.objs.size,_,I.laid (t':=s.toks) kp (Yt _) (show bZ X.prog X.w _ h' _ (.lst ys)from⟨hz,its,c',r',e⟩),rfl,q _ (I.hok.fresh (Yt _))⟩
 rcases hq with hq|hq
 .obtain⟨its,r',pl,hz⟩:=I.list hq;have hlen:=r'.length;obtain⟨o,ho,hc,n,hd⟩:=pl.isList;exact call_list_seq p (.inl rfl) ho hc hd (λh' c' kp e=>fin its r' hz h' c' kp e) (by simp only[Yl]<;>exact lC 2 2268279672881 T1 hlen hz)
 .obtain⟨its,r',pl,hz⟩:=I.tuple hq;have hlen:=r'.length;obtain⟨o,ho,hc,n,hd⟩:=pl;exact call_list_seq p (.inr rfl) ho hc hd (λh' c' kp e=>fin its r' hz h' c' kp e) (by simp only[Yl]<;>exact lC 2 2268279672881 T1 hlen hz)
theorem Zhx:cg X (.type "tuple") (λxs H Q=>∃p ys,xs=[.ref p]/\((bQ X.K H p ys/\∀l,H l=Ye->Q (.ref l) (upd H l (.tup ys)))\/(cJ X.K H p ys/\Q (.ref p) H))):=by
 intro pins s σ H xs us Q I r h;obtain⟨p,ys,rfl,h⟩:=h;obtain⟨u,rfl,rx⟩:=vals1 r;cases rx;rcases h with⟨hq,q⟩|⟨hq,q⟩
 .obtain⟨its,r',pl,hz⟩:=I.list hq;have hlen:=r'.length;refine call_tuple_list pl.isList (λh' kp=>?_) (by simp only[Yl]<;>exact lC 2 2268279672881 T1 hlen hz);have I1:Inv X pins σ H {s with heap:=h'}:=I.kept (t':=s.toks) kp;have I2:Inv X pins σ (upd H h'.objs.size (.tup ys)) {s with heap:=h'.push {cls:=.type "tuple",data:=.seq its.toArray}}:=
   I1.laid (t':=s.toks) (λb o e=>Yh _ e) (Yt _) (show bZ X.prog X.w _ _ _ (.tup ys)from⟨hz,its,r',rF.new _ _⟩)
  exact⟨.ref h'.objs.size,_,I2,rfl,q _ (I1.hok.fresh (Yt _))⟩
 .obtain⟨its,r',pl,hz⟩:=I.tuple hq;exact call_tuple_same pl ⟨.ref p,H,I,rfl,q⟩
def xU(K:Yb)(T:String)(x:V)(H:Hp):Prop:=match x with
 | .str _=>T= "str"|.int _=>T= "int"|.ref p=>(T= "list" /\∃xs,bQ K H p xs)\/(T= "tuple" /\∃o,K.lookup p=Ya o/\o.cls= .type "tuple" /\o.dict=Ye)\/
   (T= "dict" /\((∃kvs,H p=Ya (.dK kvs))\/∃kvs,H p=Ya (.dT kvs)))\/(T= "set" /\∃S n,H p=Ya (.set S n))
 |_=>False
theorem ZR{pins:List (Yq×aB)}{σ:St}{H:Hp}{s:Yf}{T:String}{x:V}{v:Yd}(I:Inv X pins σ H s)(r:RelV x v)(ty:xU X.K T x H):
  s.TypeIs v T/\∀a,v= .ref a->∃ob,s.heap.get? a=Ya ob/\ob.dict=Ye:=by
 cases x with
 |str z=>obtain⟨t,rfl⟩:=r;cases(show T= "str" from ty);exact⟨zj s z t,λ_ e=>nomatch e⟩|int i=>obtain⟨t,rfl⟩:=r;cases(show T= "int" from ty);exact⟨Nj s i t,λ_ e=>nomatch e⟩|ref p=>
  cases r
  rcases ty with⟨rfl,xs,hq⟩|⟨rfl,o,hk,hc,hd⟩|⟨rfl,hk⟩|⟨rfl,S,n,hk⟩
  .obtain⟨its,_,pl,_⟩:=I.list hq;refine⟨pl.isList.typeIs,λa e=>?_⟩;cases e;obtain⟨o,n,e,c,hd,_⟩:=pl;exact⟨o,e,hd⟩
  .refine⟨⟨o,I.bO p o hk,hc⟩,λa e=>?_⟩;cases e;exact⟨o,I.bO _ o hk,hd⟩
  .have z:∃o,s.heap.get? p=Ya o/\o.ExactDict:=by
    rcases hk with⟨kvs,hk⟩|⟨kvs,hk⟩
    .obtain⟨_,_,_,_,o,_,_,e,ex,_⟩:=I.hok p _ hk;exact⟨o,e,ex⟩
    .obtain⟨_,_,_,_,o,_,_,e,ex,_⟩:=I.hok p _ hk;exact⟨o,e,ex⟩
   obtain⟨o,e,ex⟩:=z;refine⟨⟨o,e,ex.1⟩,λa e2=>?_⟩;cases e2;exact⟨o,e,ex.2.1⟩
  .obtain⟨o,_,_,_,e,ex,_⟩:=I.hok p _ hk;refine⟨⟨o,e,ex.1⟩,λa e2=>?_⟩;cases e2;exact⟨o,e,ex.2.1⟩
 |_=>exact dH ty
def ZS(K:Yb)(T:String)(r:V->List V->Hp->VK->Prop)(to:TE):TE:=λσ H Q=>to σ H λx H1=>xU K T x H1/\r x [] H1 Q
def ZV(K:Yb)(T:String)(r:V->List V->Hp->VK->Prop)(to:TE)(t:TA):TE:=λσ H Q=>to σ H λx H1=>xU K T x H1/\t σ H1 λxs H2=>r x xs H2 Q
variable {o e:Expr} {es:List Expr} {to:TE} {t:TA} {name:aj} {apos cpos:aY} {T id:String} {r:V->List V->Hp->VK->Prop}
theorem ZrL(pa:PlainAttrs T)(slot:Slot T name id)(hty:typeOf (.builtin id)=pure (.type "method_descriptor"))(hm:mQ X id r)(ho:PE X o to)(hbase:oW o name X.env (aF o X.env)=aF o X.env:=by rfl)(hline:(apos.endLine==cpos.line)=true:=by rfl):PE X (.Call (.Attribute o name apos) [] [] cpos) (ZS X.K T r to):=by intro pins s σ H Q I h;refine wpAny_Call_method0_late hbase hline (aP (ho pins s σ H _ I h) λv s1 ak=>?_);obtain⟨x,H1,I1,r1,ty,q1⟩:=ak;obtain⟨h1,h2⟩:=ZR I1 r1 ty;exact⟨T,id,pa,slot,hty,h1,h2,Oz rfl (PySem.evalArgs_none (hm pins s1 σ H1 x [] v [] Q I1 r1 .nil q1))⟩
theorem Er(pa:PlainAttrs T)(slot:Slot T name id)(hty:typeOf (.builtin id)=pure (.type "method_descriptor"))(hm:mQ X id r)(ho:PE X o to)(ha:PA X (e::es) t)(hbase:oW o name X.env (aF o X.env)=aF o X.env:=by rfl)(hfew:((bN cpos (Yp (e::es) X.env)).all (λx=>!x.1)&&(jO cpos (jN [] X.env)).all (λx=>x.1.isSome)
   &&decide ((e::es).length+([]:List Keyword).length+(if([]:List Keyword).isEmpty then 0 else 1)<30))=true:=by rfl)(hline:(apos.endLine==cpos.line)=true:=by rfl)(hs:Yp (e::es) X.env=(false,aF e X.env)::Yp es X.env:=by rfl)(hplain:(bN cpos (Yp es X.env)).any (·.1)=false:=by rfl):
  PE X (.Call (.Attribute o name apos) (e::es) [] cpos) (ZV X.K T r to t):=by
 intro pins s σ H Q I h;refine wpAny_Call_method_late hbase hfew hline rfl (aP (ho pins s σ H _ I h) λv s1 ak=>?_);obtain⟨x,H1,I1,r1,ty,q1⟩:=ak;obtain⟨h1,h2⟩:=ZR I1 r1 ty;refine⟨T,id,pa,slot,hty,h1,h2,?_⟩;have hA:=ha cpos pins s1 σ H1 _ I1 q1;rw[hs]at hA ⊢;refine Oz (by show(false|| (bN cpos (Yp es X.env)).any (·.1))=false;rw[hplain]<;>rfl) (DK ?_);exact aP hA λus s2 ⟨vs,H2,I2,r2,q2⟩=>hm pins s2 σ H2 x vs v us Q I2 r1 r2 q2
/-xs.append(e),list.index on a module's tuple .. are mQ facts of 06m -/
end
end L2
namespace L2
open PySem PySem.Spec PyProof.Rows
def Qj(X:Cx)(id:String)(r:V->List V->Hp->VK->Prop):Prop:=
 ∀(pins:List (Yq×aB)) (s:Yf) (σ:St) (H:Hp) (x:V) (xs:List V) (v:Yd) (us:List Yd) (Q:VK),Inv X pins σ H s->RelV x v->Vals xs us->r x xs H Q ->
  Y8 (ao X.prog X.w) X.A (call (.builtin id) (v::us)) (EP X pins σ Q) X.xe s
variable{us:List Yd}
theorem Vals.one{x:V}(h:Vals [x] us):∃u,us=[u]/\RelV x u:=by
 cases h with
 |cons r h=>cases h;exact⟨_,rfl,r⟩
theorem Vals.zero:∀{us:List Yd},Vals [] us->us=[]
 |_,.nil=>rfl
variable{xs:List V}
theorem Vals.dropLast(h:Vals xs us):Vals xs.dropLast us.dropLast:=by
 induction h with
 |nil=>exact .nil|cons r t ih=>
  cases t with
  |nil=>exact .nil|cons q t'=>exact .cons r ih
theorem Vals.eraseIdx:∀{xs:List V} {us:List Yd} (i:Nat),Vals xs us->Vals (xs.eraseIdx i) (us.eraseIdx i)
 |_,_,_,.nil=>.nil|_,_,0,.cons _ t=>t|_,_,i+1,.cons r t=>.cons r (Vals.eraseIdx i t)
theorem Vals.reverse(h:Vals xs us):Vals xs.reverse us.reverse:=by
 induction h with
 |nil=>exact .nil|cons r t ih=>rw[VG,VG];exact Vals.append ih (.cons r .nil)
theorem Vals.rep(h:Vals xs us):∀k:Nat,Vals (Yj k xs).flatten (Yj k us).flatten
 |0=>.nil|k+1=>by rw[tR,tR,xJ,xJ];exact Vals.append h (Vals.rep h k)
theorem Zkl{α:Type}(l:List α):l.eraseIdx (l.length-1)=l.dropLast:=by
 induction l with
 |nil=>rfl|cons a r ih=>
  cases r with
  |nil=>rfl|cons b r=>
   have e:(a::b::r).length-1=((b::r).length-1)+1:=by have h1:(a::b::r).length=r.length+2:=rfl;have h2:(b::r).length=r.length+1:=rfl;exact Y9 (lE 4 0xa4c30a4c0012a3c2121b1c221a1c031 T1 h2 h1 (nQ (lB 1 687760064561 T1 h1)) (o_ _ _)) (lE 4 0x3a4c00a4c21a3c20121b1c231a1c021 T1 h2 h1 (o_ _ _) (nQ (lB 1 2694955057 T1 h2)))
   rw[e,List.eraseIdx_cons_succ,ih]
   all_goals rfl
theorem ZW{α:Type}:∀(l:List α) (i:Nat),(l.eraseIdx i).length<=l.length
 |[],_=>Yt _|_::_,0=>N7 _|_::r,i+1=>HY (ZW r i)
theorem foldl_rep(its:List Yd):∀(k:Nat) (acc:List Yd),
  HJ (λx1 x2=>x1++x2) acc.toArray (Yj k its.toArray)=(acc++(Yj k its).flatten).toArray
 |0,acc=>by simp|k+1,acc=>by
  have e:acc.toArray++its.toArray=(acc++its).toArray:=by simp
  have e2:(acc++its)++(Yj k its).flatten=acc++(Yj (k+1) its).flatten:=by rw[tR,xJ,jC]
  rw[←e2,←foldl_rep its k (acc++its),←e,tR,Ny]
section
variable {X:Cx} {pins:List (Yq×aB)} {σ:St} {H:Hp} {s:Yf} {l b:Yq} {xs ys zs:List V}
theorem Inv.Mt{its its':List Yd}{n:Nat}{f:Array Yd->Array Yd}{t':Nat}(I:Inv X pins σ H s)(hH:H l=Ya (.lst xs))(e:s.heap.get? l=Ya {cls:=.type "list",data:=.seq its.toArray n})(hf:f its.toArray=its'.toArray)(hv:Vals ys its')(hz:ys.length<=bj):
  Inv X pins σ (upd H l (.lst ys)) {s with heap:=s.heap.update l (DP f),toks:=t'}:=by
 have q:=PySem.IsL.update e f;rw[hf]at q;refine I.write (x:=l) (e:=l) (by rw[hH];exact trivial) (.inl rfl) (λb' u hb hu=>(xK s.heap (DP f) (cQ hb)).trans hu) ⟨_,q⟩ ?_;exact⟨hz,its',_,hv,q⟩
theorem Inv.Uj{its:List Yd}{t':Nat}(I:Inv X pins σ H s)(hv:Vals ys its)(hz:ys.length<=bj):
  Inv X pins σ (upd H s.heap.objs.size (.lst ys)) {s with heap:=s.heap.push {cls:=.type "list",data:=.seq its.toArray},toks:=t'}:=
 I.laid (λ_ _ q=>Yh _ q) (Yt _) ⟨hz,its,0,hv,Yw _ rfl⟩
theorem Inv.fresh(I:Inv X pins σ H s):H s.heap.objs.size=Ye:=I.hok.fresh (Yt _)
theorem Inv.yW(I:Inv X pins σ H s)(hH:H l=Ya (.lst xs)):xs.length<=bj/\∃(its:List Yd) (n:Nat),Vals xs its/\xs.length=its.length/\s.heap.get? l=Ya {cls:=.type "list",data:=.seq its.toArray n}:=by obtain⟨z,its,n,r,e⟩:=I.hok l _ hH;exact⟨z,its,n,r,r.length,e⟩
theorem ZoG{n:Nat}(h:n<=bj):O1 n=false:=by unfold O1;exact decide_eq_false (by omega)
end
section
variable {X:Cx}
noncomputable def ZX:V->List V->Hp->VK->Prop:=λx vs H Q=>∃l xs y,x= .ref l/\vs=[y]/\H l=Ya (.lst xs)/\xs.length<bj/\Q .non (upd H l (.lst (xs++[y])))
theorem ZZ:Qj X "list.append" ZX:=by intro pins s σ H x vs v us Q I rx rv h;obtain⟨l,xs,y,rfl,rfl,hH,hz,q⟩:=h;cases rx;obtain⟨u,rfl,ru⟩:=rv.one;obtain⟨z,its,n,r,hl,e⟩:=I.yW hH;refine vh F.slot_list_append ⟨_,e,rfl⟩ F.entry_list_append (F.args_list_append_2 _ _) (PySem.list_append l its.toArray n u (by rw[Yl];exact lC 2 2268279672881 T1 hl z)) ⟨e,?_⟩;refine⟨.non,_,I.Mt (its':=its++[u]) hH e (by simp) (r.append (.cons ru .nil)) ?_,rfl,q⟩;rw[Yi,Yk];exact lB 1 6991908881 T1 hz
noncomputable def Z0:V->List V->Hp->VK->Prop:=λx vs H Q=>∃l xs y,x= .ref l/\vs=[]/\H l=Ya (.lst xs)/\xs[xs.length-1]?=Ya y/\Q y (upd H l (.lst xs.dropLast))
theorem ZrY:Qj X "list.pop" Z0:=by
 intro pins s σ H x vs v us Q I rx rv h;obtain⟨l,xs,y,rfl,rfl,hH,hy,q⟩:=h;cases rx;have hus:=rv.zero;subst hus;obtain⟨z,its,n,r,hl,e⟩:=I.yW hH;obtain⟨u,hu,ru⟩:=r.get hy;have hy':its.toArray[its.toArray.size-1]?=Ya u:=by show its.toArray[its.length-1]?=Ya u;rw[←Oj,←hl];exact hu
 refine vh WR ⟨_,e,rfl⟩ WP (F.args_list_pop_1 _) (MeetsSeq.list_pop_last l its.toArray n u hy' (by rw[Yl];exact lC 2 2268279672881 T1 hl z)) ⟨e,?_⟩;refine⟨y,_,I.Mt (its':=its.dropLast) hH e ?_ r.dropLast ?_,ru,q⟩
 .show its.toArray.eraseIdxIfInBounds (its.toArray.size-1)=its.dropLast.toArray;rw[Yl,Vm,Zkl]
 .rw[List.length_dropLast];exact Ym (Ds _ _) z
noncomputable def Z1:V->List V->Hp->VK->Prop:=λx vs H Q=>∃l xs i k y,x= .ref l/\vs=[.int i]/\H l=Ya (.lst xs)/\ -(2^63)<=i/\i<2^63/\Nq i xs.length=Ya k/\xs[k]?=Ya y/\Q y (upd H l (.lst (xs.eraseIdx k)))
theorem ZnH:Qj X "list.pop" Z1:=by
 intro pins s σ H x vs v us Q I rx rv h;obtain⟨l,xs,i,k,y,rfl,rfl,hH,h1,h2,hk,hy,q⟩:=h;cases rx;obtain⟨u,rfl,ru⟩:=rv.one;obtain⟨t,rfl⟩:=ru;obtain⟨z,its,n,r,hl,e⟩:=I.yW hH;obtain⟨w,hw,jg⟩:=r.get hy;refine vh WR ⟨_,e,rfl⟩ WP (F.args_list_pop_2 _ _)
  (MeetsSeq.list_pop_at l its.toArray n i t k w (fitsIndex_both h1 h2) (by rw[Yl,←hl];exact hk) (by rw[←Oj];exact hw) (by rw[Yl];exact lC 2 2268279672881 T1 hl z)) ⟨e,?_⟩
 refine⟨y,_,I.Mt (its':=its.eraseIdx k) hH e ?_ (r.eraseIdx k) ?_,jg,q⟩
 .show its.toArray.eraseIdxIfInBounds k=(its.eraseIdx k).toArray;rw[Vm]
 .have:=ZW xs k;exact Ym this z
def Zwh:R2:=λx y H Q=>∃l b xs zs,x= .ref l/\y= .ref b/\H l=Ya (.lst xs)/\H b=Ya (.lst zs)/\xs.length+zs.length<=bj/\∀p,H p=Ye->Q (.ref p) (upd H p (.lst (xs++zs)))
theorem Zsa:bf X (ig .Add) Zwh:=by
 intro pins s σ H x y v u Q I rx ry h;obtain⟨l,b,xs,zs,rfl,rfl,hH,hB,hz,q⟩:=h;cases rx;cases ry;obtain⟨z,its,n,r,hl,e⟩:=I.yW hH;obtain⟨z2,its2,n2,r2,hl2,e2⟩:=I.yW hB;refine PySem.P.add_list e e2 ?_ (by rw[Yl,Yl];exact lE 3 0x413c0402c0132311031 T1 hl2 hl hz);have ea:its.toArray++its2.toArray=(its++its2).toArray:=by simp
 rw[ea];exact⟨.ref _,_,I.Uj (t':=s.toks) (r.append r2) (by rw[Yi];exact hz),rfl,q _ I.fresh⟩
def ZvV:R2:=λx y H Q=>∃l k xs,x= .ref l/\y= .int k/\H l=Ya (.lst xs)/\ -(2^63)<=k/\k<2^63/\xs.length*k.toNat<=bj/\
 ∀p,H p=Ye->Q (.ref p) (upd H p (.lst (Yj k.toNat xs).flatten))
theorem len_rep{α:Type}(xs:List α)(k:Nat):(Yj k xs).flatten.length=k*xs.length:=by
 induction k with
 |zero=>simp|succ k ih=>rw[tR,xJ,Yi,ih,Nat.succ_mul,Ib]
theorem ZrH:bf X (ig .Mult) ZvV:=by
 intro pins s σ H x y v u Q I rx ry h;obtain⟨l,k,xs,rfl,rfl,hH,h1,h2,hz,q⟩:=h;cases rx;obtain⟨t,rfl⟩:=ry;obtain⟨z,its,n,r,hl,e⟩:=I.yW hH;have hlen:its.toArray.size*k.toNat<=bj:=by rw[Yl,←hl];exact hz
 have Adz:¬its.toArray.size*k.toNat>(2^63-1) / 8:=by
  have:(bj:Nat)<=(2^63-1) / 8:=by decide
  omega
 have hfit:¬(!Builtin.List.listFitsIndex k)=true:=by rw[fitsIndex_both h1 h2];exact o8
 have Adh:¬O1 (its.toArray.size*k.toNat)=true:=by rw[ZoG hlen];exact o8
 have hnew:HJ (λx1 x2=>x1++x2) #[] (Yj (if its.toArray.isEmpty=true then 0 else k.toNat) its.toArray)=(Yj k.toNat its).flatten.toArray:=by
  have f0:∀m:Nat,HJ (λx1 x2=>x1++x2) #[] (Yj m its.toArray)=(Yj m its).flatten.toArray:=λm=>by have:=foldl_rep its m [];rw[tU]at this;exact this
  rw[f0];cases its with
  |nil=>simp|cons a r'=>rw[if_neg (by simp)]
 refine wpAny_binaryOp_repeat_ref (T:="list") (U:="int") (by decide) ⟨_,e,rfl⟩ (λs'=>Nj s' k t) noFill_list_mul F.fills_int_mul WT repeat_list F.slot_int_index.lookup
  (vh WT (Nj s k t) F.entry_int_rmul (F.args_int_rmul_2 _ _) (int___rmul___int_list k t l its.toArray n)
   ⟨e,rfl,⟨_,e,rfl⟩,vh F.slot_list_mul ⟨_,e,rfl⟩ F.entry_list_mul (F.args_list_mul_2 _ _) (AutoListH.list___mul___list_int_3 l its.toArray n k t hfit Adz Adh) ⟨e,?_⟩⟩)
 rw[hnew];exact⟨.ref _,_,I.Uj (t':=s.toks) (r.rep k.toNat) (by rw[len_rep,Nat.mul_comm];exact hz),rfl,q _ I.fresh⟩
end
end L2
namespace Z2
open PySem PySem.W PySem.Calls PyProof.Rows
theorem Zgw{P:Params}{h:aq}:∀(ns:List Int) (vs:List Yd),WellAll P h vs (ns.map WData.int)->IntsAre vs ns:=by
 intro ns
 induction ns with
 |nil=>intro vs w;rw[qp]at w;cases w;exact .nil|cons n ns ih=>
  intro vs w;rw[Yy]at w;cases w with
  |cons a b=>
   cases a
   exact .cons _ _ (ih _ b)
theorem Zm1{l:OpenLaw}{n:Nat}(hn:l.most=Ya n){P:Params}{h:aq}{args:List WData}{vals:List Yd}(hpre:l.row.toRowW.claim.pre args=true)(hwl:WellAll P h vals args):
  ∃a vs ns,vals=[Value.ref a]/\args=[WData.list (ns.map WData.int)]/\h.get? a=Ya {cls:=.type "list",data:=.seq vs.toArray}/\IntsAre vs ns/\ns.length<=n:=by
 have hsh:WShape.hasAll [] args [.list .int]=true:=(pre_splitW hpre).1;have hc:l.pre.holds [] {args:=args}=true:=(pre_splitW hpre).2;obtain⟨d,r,rfl,h1,h2⟩:=hasAllW_cons hsh;obtain rfl:=hasAllW_nil h2;obtain⟨xs,rfl,h3⟩:=hasW_list h1;obtain⟨ns,rfl⟩:=items_int h3;have hlen:ns.length<=n:=by
  unfold OpenLaw.pre at hc;have h4:(WTm.not (.lt (.lit (.int (n:Int))) (.len (.arg 0)))).holds [] {args:=[.list (ns.map .int)]}=true:=by have h4:=(holds_andW hc).1;rw[hn]at h4;exact h4
  have h5:=condW_of h4 (w_not (w_lt w_lit (w_len_list (w_arg rfl))));rw[Yg]at h5;refine jT λq=>?_;have q':(n:Int)<((ns.length:Nat):Int):=by exact Io.2 q
  first
   |(rw[decide_eq_true q']at h5;exact absurd h5 (by decide))
   |(simp at h5;omega)
 cases hwl with
 |cons w1 w2=>
  cases w2
  cases w1 with
  |list ho hall=>exact⟨_,_,ns,rfl,rfl,ho,Zgw ns _ hall,hlen⟩
theorem ZmG(l:OpenLaw)(args:List WData):l.row.toRowW.claim.post args (.bool true) args=true:=
 postW_of (r:=l.row.toRowW) (X:=(true==true))
  (show WShape.has [] (.bool true) .bool=true by first|rfl|decide|simp[WShape.has,WShape.arms,WShape.armsAll])
  (show(WTm.eq .res (.lit (.bool true))).value [] {args:=args,res:=Ya (.bool true),after:=args}=Ya (.bool (true==true))from w_eq_bool (w_res rfl) w_lit) rfl
theorem Abi{l:OpenLaw}{n:Nat}{q:Y3}{loose:List aj}{XP:(aj->Option Yd)->aq->Prop}{YP:aO->aq->Prop}{d:DefRec}(hn:l.most=Ya n)(hdf:d.params.defaults=[])(call:∀(w:aO) (s₀ s₁:Yf) (mg mb:aj->Option Yd) (fa:Yq) (o:aB) (pm cd doc:Yd) (a:Yq) (vs:List Yd) (ns:List Int),
   Ground q loose [] XP w s₀ mg mb s₁.heap->YP w s₁.heap ->
   s₁.heap.get? fa=Ya o->o.data= .func (docDef d.name d.params d.body d.scope pm cd doc)->s₁.heap.CodeRec cd d.name->mg d.name=Ya (.ref fa) ->
   s₁.heap.get? a=Ya {cls:=.type "list",data:=.seq vs.toArray}->IntsAre vs ns->ns.length<=n->s₁.gens= #[] ->
   oY (ao l.prog w) vm (.call (.ref fa) ⟨[.ref a],[]⟩) (λr s'=>r= .ok (.ret (.bool true))/\OldK s₁.heap s'.heap/\s'.os=s₁.os/\rA s'.gens) s₁):
  WalkO q loose XP YP l.row.toRowW d [] (λf vs=>Nk f vs):=by
 intro w s₀ s₁ mg mb G Y fa o pm cd doc dV kV ho hd hcd hD hmg hg args vals as hpre hlay hrd hwl hlo;obtain rfl:dV= .none:=Dflts.none hD hdf;obtain rfl:kV= .none:=Dflts.noKw hD;obtain⟨a,vs,ns,rfl,rfl,hobj,hints,hlen⟩:=Zm1 hn hpre hwl;refine enter_call (tH (call w s₀ s₁ mg mb fa o pm cd doc a vs ns G Y ho (fd_plain hd) hcd hmg hobj hints hlen hg) λr s' hq=>?_);obtain⟨rfl,h2,h3,h4⟩:=hq;exact⟨.inl ⟨.bool true,.bool true,[],rfl,λ_=>rfl,.bool true,ZmG l _,λ_=>⟨List.Pairwise.nil,λ_ hm=>(nomatch hm)⟩⟩,h2,h3,h4⟩
end Z2
namespace L2
open PySem PySem.Spec PyProof.Rows
theorem Z3:∀{vs:List Yd} {ns:List Int},IntsAre vs ns->Vals (ns.map V.int) vs
 |_,_,.nil=>.nil|_,_,.cons n t h=>.cons ⟨t,rfl⟩ (Z3 h)
def Only(H:Hp):Prop:=∀b,H b=Ye\/∃o xs,H b=Ya (.bJ o (.lst xs))
theorem Zn9{P:Y3}{w:aO}{K:Yb}{mg mb:aj->Option Yd}{CX:nY}{k:Nat}{fa a:Yq}{fd:gM}{x:aj}{sp:Sp}{s₁:Yf}{vs:List Yd}{ns:List Int}(KX:K.In s₁.heap)(hns:s₁.heap.Ns Y4 mg)(hb:s₁.heap.Ns Ng mb)(hbb:∀x:aj,x≠ "__name__" ->mb x=gb x)(hlim:s₁.heap.NoLimit)(hg:s₁.gens= #[])(ha:s₁.heap.get? a=Ya {cls:=.type "list",data:=.seq vs.toArray})(hi:IntsAre vs ns)(hl:ns.length<=bj)(hr:cL k vm)(F:∀base:aq,K.In base->base.Ns Y4 mg->fC P w K mg base CX k fa fd [x] sp)(hbind:∀(s:Yf) (u:Yd),zp s fd ⟨[u],[]⟩ [(x,u)])(hsp:∀H:Hp,Only H->bQ K H a (ns.map V.int)->sp [.ref a] H (λv _=>v= .bl true) λ_ _ _=>False)(Qk:∀H e s',CX [] H s₁ (λ_ _ _=>False) e s'->False):
  oY (ao P w) vm (.call (.ref fa) ⟨[.ref a],[]⟩) (λr s'=>r= .ok (.ret (.bool true))/\OldK s₁.heap s'.heap/\s'.os=s₁.os/\rA s'.gens) s₁:=by
 have rv:=Z3 hi;have lenV:=hi.length;have core:∀H:Hp,Only H->bQ K H a (ns.map V.int)->cV P w H s₁.heap->(∀b,H b≠Ye->b=a)->(H a≠Ye->K.lookup a=Ye) ->
   oY (ao P w) vm (.call (.ref fa) ⟨[.ref a],[]⟩) (λr s'=>r= .ok (.ret (.bool true))/\OldK s₁.heap s'.heap/\s'.os=s₁.os/\rA s'.gens) s₁:=by
  intro H hO hS hok hA hK;have T5:∀{b:Yq} {o:aB},s₁.heap.get? b=Ya o->H b=Ye->(t8 s₁.heap H).get? b=Ya o:=λe n=>Zn0 e n;have Em:∀{b:Yq} {o:aB} {es:Array DictEntry} {ep:Nat},s₁.heap.get? b=Ya o->o.data= .dict es ep->H b=Ye:=λ{b o es ep} e d=>by
   cases q:H b with
   |none=>rfl|some u=>have e':b=a:=hA b (by rw[q];simp);subst e';rw[ha]at e;cases e;have d':Data.seq vs.toArray _=Data.dict es ep:=d;cases d'
  have Jz:∀{b:Yq} {m:aj->Option Yd},s₁.heap.Ns b m->(t8 s₁.heap H).Ns b m:=λ{b m} ⟨o,es,ep,e,d,r⟩=>⟨o,es,ep,T5 e (Em e d),d,r⟩;have Z4:K.In (t8 s₁.heap H):=λb o e=>T5 (KX b o e) (by
   cases q:H b with
   |none=>rfl|some u=>have e':b=a:=hA b (by rw[q];simp);subst e';rw[hK (by rw[q];simp)]at e;cases e)
  have hM:Mod K mg (t8 s₁.heap H):=⟨Z4,Jz hns,⟨mb,Jz hb,hbb⟩,let⟨mc,h1,h2⟩:=hlim;⟨mc,Jz h1,h2⟩⟩;have e0:rH P w K mg (t8 s₁.heap H) vm [] s₁ H:=⟨rfl,hM,λb o e=>ZqF e,kZ (Zmc _ _),trivial,λb hb=>absurd (show b∈([]:List Yq)from hb) (by simp),hok,.of_eq hg⟩;refine tH ((F _ Z4 (Jz hns)).run vm [] s₁ H ⟨[.ref a],[]⟩ [.ref a] [.ref a] _ _ hr e0 (hbind s₁ (.ref a)) (.cons rfl .nil) (hsp H hO hS)) λr s' h=>?_;cases r with
  |error e=>exact(Qk H e s' h).elim|ok fl=>
   cases fl with
   |next=>exact dH h|brk=>exact dH h|cont=>exact dH h|ret u=>
    obtain⟨v,H',os,bare,un,hok',r',q⟩:=h;have q':v= .bl true:=q;subst q';obtain rfl:u=Value.bool true:=r';refine⟨rfl,OldK.of_keep λb o e=>?_,os,bare⟩;cases q:H b with
    |none=>exact un.keep b o e q (by intro z;exact absurd (show b∈([]:List Yq)from z) (by simp)) (by simp)|some u=>
     rcases hO b with z|⟨ob,xs,z⟩
     .rw[q]at z;cases z
     .have z2:=un.kI b ob _ z;obtain⟨e1,_⟩:=hok b _ z;obtain⟨e2,_⟩:=hok' b _ z2;rw[e]at e1;cases e1;exact e2
 cases hk:K.lookup a with
 |some o=>have e:=KX a o hk;rw[ha]at e;cases e;refine core (λ_=>Ye) (λ_=>.inl rfl) (.inr ⟨_,vs.toArray,_,hk,rfl,rfl,rfl,by rw[Yl,lenV];exact hl,by simpa using rv⟩) (λb u z=>by have z':(Ye:Option HO)=Ya u:=z;cases z') (λb z=>absurd rfl z) λz=>absurd rfl z|none=>
  refine core (λb=>if b=a then Ya (.bJ {cls:=.type "list",data:=.seq vs.toArray} (.lst (ns.map V.int)))else Ye) (λb=>?_) (.inl (.inr ⟨{cls:=.type "list",data:=.seq vs.toArray},if_pos rfl⟩)) (λb u z=>?_) (λb z=>?_) λ_=>hk
  .by_cases hb:b=a
   .exact .inr ⟨_,_,if_pos hb⟩
   .exact .inl (if_neg hb)
  .by_cases hb:b=a
   .have z':=(if_pos hb).symm.trans z;cases z';subst hb;exact⟨ha,by rw[Yg];exact hl,vs,_,rv,ha⟩
   .have z':=(if_neg hb).symm.trans z;cases z'
  .by_cases hb:b=a
   .exact hb
   .exact absurd (if_neg hb) z
end L2
namespace L2
open PySem PySem.Spec PyProof.Rows
theorem Zl1{l:PySem.W.OpenLaw}{n k:Nat}{q:Y3}{loose:List aj}{XP:(aj->Option Yd)->aq->Prop}{YP:aO->aq->Prop}{d:DefRec}{K:Params->Yb}{CX:aO->nY}{sp:aO->Sp}{x:aj}(hn:l.most=Ya n)(hn2:n<=bj)(hdf:d.params.defaults=[])(hr:cL k vm)(hY:∀(w:aO) (h:aq),YP w h->(K w.params).In h)(F:∀(w:aO) (mg:aj->Option Yd) (fa:Yq) (h:aq),(K w.params).In h->h.Ns Y4 mg->mg d.name=Ya (.ref fa) ->
   ∃fd:gM,(∀(s:Yf) (u:Yd),zp s fd ⟨[u],[]⟩ [(x,u)])/\
    ∀base:aq,(K w.params).In base->base.Ns Y4 mg->fC l.prog w (K w.params) mg base (CX w) k fa fd [x] (sp w))(hsp:∀(w:aO) (H:Hp) (a:Yq) (ns:List Int),ns.length<=n->Only H->bQ (K w.params) H a (ns.map V.int)->sp w [.ref a] H (λv _=>v= .bl true) λ_ _ _=>False)(Qk:∀(w:aO) (H:Hp) (s:Yf) (e:Yd) (s':Yf),CX w [] H s (λ_ _ _=>False) e s'->False):
  U0 q loose XP YP l.row.toRowW d [] (λf vs=>Nk f vs):=by
 refine Z2.Abi hn hdf λw s₀ s₁ mg mb fa o pm cd doc a vs ns G Y ho hd hcd hmg hobj hints hlen hg=>?_;have KX:=hY w _ Y;obtain⟨fd,hb,hF⟩:=F w mg fa _ KX G.T.g hmg;exact Zn9 KX G.T.g G.T.b G.T.builtins G.T.nolimit hg hobj hints (Ym hlen hn2) hr hF hb (λH hO hS=>hsp w H a ns hlen hO hS) λH e s'=>Qk w H s₁ e s'
end L2
/-THE LAST THEOREM (shape;LID,My.*are AdN):
  My.Adr:a structure of the addresses that your layer names (classes,functions);My.Txt K t:a structure (Prop) of the equations over K;
  My.Ac9:{K} {implicit addresses ..} (e1:nsIn K Y4 "law" =Ya (Ya (.ref f))) (e2:K.lookup f=Ya ⟨oc,od,.func (fnOf "law" "law" params body scope dV kV doc pm an cdv ct),sl⟩) (e3:codeIn K cdv "law" =true) ..:∃t,My.Txt K t
set_option maxRecDepth 100000 in
set_option maxHeartbeats 0 in
theorem PySem.Challenge.cw_LID_holds : PySem.Challenge.rw_LID.Holds := by
 w_on;o_law;k_head;(case hw=>w_witness2)
 k_fill
 refine L2.Zl1 (l:=PySem.Challenge.rw_LID) (n:=63) (k:=40) (x:="script") (CX:=λw=>..) (sp:=λ_=>My.sp_law) rfl (by decide) rfl ⟨rfl,by decide,by decide⟩ (λw h Y=>PySem.W.kIn_of Y) ?F ?S ?C
 case F=>
  intro w mg fa h KX G hmg;have T:∃t,My.Txt (L2.KOf KX) t:=by
   dsimp only[L2.KOf]                          --K must stand as «<heap const>w.params» for k_is;refine' My.Ac9 ?e1 ?e2 ?e3 ..
   (case e1=>PySem.W.k_is)                    --in the order:a name->its address->its object->its parts
   (case e2=>PySem.W.k_is)
   ..
  obtain⟨t,T⟩:=T;have e0:=hmg.symm.trans (U3 KX G T.law);cases e0                                       --fa is the law's own address;exact⟨_,λs u=>.of_eq rfl,λbase kb nb=>My.Ada T kb nb⟩     --if «.of_eq rfl» comes too early:refine'⟨_,?b,λbase kb nb=>My.Ada T kb nb⟩;exactλs u=>.of_eq rfl
 case S=>exactλw H a ns hl hO hS=>..
 case C=>exact ..
(the tactic k_is has no namespace:write k_is) -/
namespace L2
open PySem PySem.Spec PyProof.Rows
noncomputable def qx(s:Yd2):Arguments:=match s with
 | .FunctionDef _ a _ _ _ _ _ _ _ _=>a|_=>{posonlyargs:=[],args:=[],vararg:=Ye,kwonlyargs:=[],kw_defaults:=[],kwarg:=Ye,defaults:=[]}
noncomputable def jx(s:Yd2):List Yd2:=match s with
 | .FunctionDef _ _ b _ _ _ _ _ _ _=>b|_=>[]
noncomputable def Zv(s:Yd2):Scope:=match s with
 | .FunctionDef _ _ _ _ _ _ sc _ _ _=>sc|_=>{kind:=.function,names:=[],isGenerator:=false,isCoroutine:=false}
noncomputable abbrev pD:nY:=λ_ _ _ _ _ _=>False
noncomputable abbrev E0:XK:=λ_ _ _=>False
theorem Zuy{X:Cx}:Qe pD X E0:=λ_ _ _ _ _ _ _ h=>h.elim
structure pF(K:Yb)(x qual:aj)(st:Yd2)(f:Yq)(fd:gM):Prop where
 ex:∃(oc:Yd) (od:Option Yq) (dV kV doc pm:Yd) (an:Option Yq) (cdv ct:Yd) (osl:Array (Option Yd)),
  fd=qY x qual (qx st) (jx st) (Zv st) dV kV doc pm an cdv ct/\K.lookup f=Ya ⟨oc,od,.func fd,osl⟩/\CJ K cdv qual=true
 kp:wY K (.ref f)=true
section
variable {P:Y3} {w:aO} {K:Yb} {mg:aj->Option Yd} {base:aq}
theorem pF.ok{x qual:aj}{st:Yd2}{f:Yq}{fd:gM}{N ps:List aj}{k:Nat}{sp:Sp}(F:pF K x qual st f fd)(S:eU N ps (Zv st))(len:∀vs H Q E,sp vs H Q E->vs.length=ps.length)(hbody:∀(cdv:Yd) (A:bB) (outer:List cH) (s:Yf) (H:Hp) (vs:List V) (Q:VK) (E:XK),cL k (A.deeper (k_ qual (Zv st) s.heap.objs.size f cdv))->sp vs H Q E ->
   ∃t,jd (nZ pD P w K mg base N qual (Zv st) f cdv A outer s H E).je (jx st) t/\t {nx:=λ_ H'=>Q .non H',rt:=Q} (start N vs) H):fC P w K mg base pD (k+1) f fd ps sp:=by
 obtain⟨oc,od,dV,kV,doc,pm,an,cdv,ct,osl,rfl,lk,hcd⟩:=F.ex;refine Jx lk hcd S len λA outer s H vs Q E hr hsp=>?_;obtain⟨t,h,q⟩:=hbody cdv A outer s H vs Q E hr hsp;exact⟨t,h.je,q⟩
theorem pF.binds{x qual:aj}{st:Yd2}{f:Yq}{fd:gM}{ps:List aj}(F:pF K x qual st f fd)(h:∀(dV kV doc pm:Yd) (an:Option Yq) (cdv ct:Yd) (us:List Yd),us.length=ps.length->bindArgs (qY x qual (qx st) (jx st) (Zv st) dV kV doc pm an cdv ct) ⟨us,[]⟩=pure (ps.zip us)):Binds K fd ps []:=by obtain⟨oc,od,dV,kV,doc,pm,an,cdv,ct,osl,rfl,lk,hcd⟩:=F.ex;exact .all (h dV kV doc pm an cdv ct)
theorem Z5{x qual:aj}{st:Yd2}{f:Yq}{oc:Yd}{od an:Option Yq}{osl:Array (Option Yd)}{dV kV doc pm cdv ct:Yd}(l:K.lookup f=Ya ⟨oc,od,.func (qY x qual (qx st) (jx st) (Zv st) dV kV doc pm an cdv ct),osl⟩)(c:CJ K cdv qual=true)(k:wY K (.ref f)=true):pF K x qual st f (qY x qual (qx st) (jx st) (Zv st) dV kV doc pm an cdv ct):=⟨⟨oc,od,dV,kV,doc,pm,an,cdv,ct,osl,rfl,l,c⟩,k⟩
end
def vU(H H':Hp):Prop:=∀b o,H b=Ya o->H' b=Ya o
theorem vU.trans{H H1 H2:Hp}(a:vU H H1)(b:vU H1 H2):vU H H2:=λc o h=>b c o (a c o h)
theorem vU.free{H H':Hp}(e:vU H H'){l:Yq}(h:H' l=Option.none):H l=Option.none:=by
 cases q:H l with
 |none=>rfl|some o=>rw[e l o q]at h;cases h
theorem vU.seq{K:Yb}{H H':Hp}{a:Yq}{xs:List V}(e:vU H H')(h:bQ K H a xs):bQ K H' a xs:=by
 rcases h with(h|⟨o,h⟩)|h
 .exact .inl (.inl (e _ _ h))
 .exact .inl (.inr ⟨o,e _ _ h⟩)
 .exact .inr h
end L2
namespace L2
open PySem PySem.Spec PyProof.Rows
variable{u:Yd}{o:Option V}
section
variable {κ:Type} [DecidableEq κ]
noncomputable def lJ(kvs:List (κ×V))(k:κ):Option V:=(kvs.find? λkv=>decide (kv.1=k)).map (·.2)
noncomputable def putK(kvs:List (κ×V))(k:κ)(v:V):List (κ×V):=if(kvs.any λkv=>decide (kv.1=k))=true then kvs.map (λkv=>if kv.1=k then(kv.1,v)else kv)else kvs++[(k,v)]
theorem ZnY{k:κ}:lJ ([]:List (κ×V)) k=Ye:=rfl
theorem JB{p:κ×V}{r:List (κ×V)}{k:κ}(e:p.1=k):lJ (p::r) k=Ya p.2:=by simp[lJ,zy,e]
theorem JC{p:κ×V}{r:List (κ×V)}{k:κ}(e:¬p.1=k):lJ (p::r) k=lJ r k:=by simp[lJ,zy,e]
theorem Z6(k:κ):∀kvs:List (κ×V),(kvs.any λkv=>decide (kv.1=k))=(lJ kvs k).isSome
 |[]=>rfl|p::r=>by
  rw[qm];by_cases e:p.1=k
  .simp only[JB e,decide_eq_true e,Bool.true_or,Uu]
  .rw[JC e,decide_eq_false e,Wf];exact Z6 k r
theorem Zj6(kvs:List (κ×V))(k:κ)(v:V):(putK kvs k v).length<=kvs.length+1:=by
 unfold putK;split
 .rw[Yg];exact q9 _ _
 .rw[Yi,Yo,ju];exact lA 0 43162452160 T1
theorem nU.AbU{u:Option Yd}(r:nU o u):o.isSome=u.isSome:=by
 cases o with
 |none=>cases u with
  |none=>rfl|some _=>exact(show False from r).elim
 |some _=>cases u with
  |none=>exact(show False from r).elim|some _=>rfl
theorem nU.getD{u:Option Yd}{d:V}{d':Yd}(r:nU o u)(rd:RelV d d'):RelV (o.getD d) (u.getD d'):=by
 cases o with
 |none=>cases u with
  |none=>exact rd|some _=>exact(show False from r).elim
 |some _=>cases u with
  |none=>exact(show False from r).elim|some _=>exact r
theorem KV.val{kvs:List (κ×V)}{vs:List (κ×Yd)}(r:KV kvs vs)(k:κ):nU (lJ kvs k) (xq vs k):=by
 unfold KV at r
 induction r with
 |nil=>exact True.intro|@cons p q ps qs h t ih=>
  obtain⟨h1,h2⟩:=h;by_cases e:p.1=k
  .have e':q.1=k:=h1.symm.trans e;have b:xq (q::qs) k=Ya q.2:=by simp[xq,zy,e']
   rw[JB e,b];exact h2
  .have e':¬q.1=k:=λz=>e (h1.trans z);have b:xq (q::qs) k=xq qs k:=by simp[xq,zy,e']
   rw[JC e,b];exact ih
theorem KV.any{kvs:List (κ×V)}{vs:List (κ×Yd)}(r:KV kvs vs)(k:κ):(kvs.any λkv=>decide (kv.1=k))=vs.any λkv=>decide (kv.1=k):=by
 unfold KV at r
 induction r with
 |nil=>rfl|cons h t ih=>rw[qm,qm,ih,h.1]
theorem KV.repl{kvs:List (κ×V)}{vs:List (κ×Yd)}(r:KV kvs vs)(k:κ){y:V}(ry:RelV y u):
  KV (kvs.map λkv=>if kv.1=k then(kv.1,y)else kv) (vs.map λkv=>if kv.1=k then(kv.1,u)else kv):=by
 unfold KV at r ⊢
 induction r with
 |nil=>exact .nil|@cons p q ps qs h t ih=>
  rw[Yy,Yy];refine .cons ?_ ih;obtain⟨h1,h2⟩:=h;by_cases e:p.1=k
  .rw[if_pos e,if_pos (h1.symm.trans e)];exact⟨h1,ry⟩
  .rw[if_neg e,if_neg (λz=>e (h1.trans z))];exact⟨h1,h2⟩
theorem KV.put{kvs:List (κ×V)}{vs:List (κ×Yd)}(r:KV kvs vs)(k:κ){y:V}(ry:RelV y u):KV (putK kvs k y) (stored vs k u):=by
 unfold putK stored;rw[r.any k];by_cases e:(vs.any λkv=>decide (kv.1=k))=true
 .rw[if_pos e,if_pos e];exact r.repl k ry
 .rw[if_neg e,if_neg e];exact Paired.snoc r ⟨rfl,ry⟩
theorem KV.keys{kvs:List (κ×V)}{vs:List (κ×Yd)}(r:KV kvs vs):kvs.map (·.1)=vs.map (·.1):=by
 unfold KV at r
 induction r with
 |nil=>rfl|cons h t ih=>rw[Yy,Yy,ih,h.1]
theorem KV.length{kvs:List (κ×V)}{vs:List (κ×Yd)}(r:KV kvs vs):kvs.length=vs.length:=Xr r
end
variable{w:aO}
theorem Ql{P:Y3}{k:Key}(r:RelV (kV k) u):(mO P w).is k u=true:=by
 cases k with
 |inl i=>obtain⟨t,e⟩:=(show∃t,u=Value.int i t from r);subst e;exact Zjg P w i t|inr x=>obtain⟨t,e⟩:=(show∃t,u=Value.str x t from r);subst e;exact Zjy P w x t
theorem Z7{P:Y3}{w:aO}:∀{ks:List Key} {us:List Yd},Vals (ks.map kV) us->ItemsAre (mO P w) ks us
 |[],_,r=>by rw[qp]at r;cases r;exact .nil|k::ks,_,r=>by
  rw[Yy]at r;cases r with
  |cons h t=>exact .cons (Ql h) (Z7 t)
noncomputable abbrev KT(H:Hp):List (List Key×V)->List (List Key×Yq×Yd)->Prop:=Paired λp q=>p.1=q.1/\H q.2.1=Ya (.tup (p.1.map kV))/\RelV p.2 q.2.2
variable{H:Hp}{xs:List (List Key×Yq×Yd)}{kvs:List (List Key×V)}
theorem KT.val(r:KT H kvs xs)(k:List Key):nU (lJ kvs k) ((tO xs k).map (·.2)):=by
 induction r with
 |nil=>exact True.intro|@cons p q ps qs h t ih=>
  obtain⟨h1,_,h2⟩:=h;by_cases e:p.1=k
  .have e':q.1=k:=h1.symm.trans e;have b:tO (q::qs) k=Ya q.2:=by simp[tO,zy,e']
   rw[JB e,b];exact h2
  .have e':¬q.1=k:=λz=>e (h1.trans z);have b:tO (q::qs) k=tO qs k:=by simp[tO,zy,e']
   rw[JC e,b];exact ih
theorem KT.repl(r:KT H kvs xs)(k:List Key){y:V}(ry:RelV y u):
  KT H (kvs.map λkv=>if kv.1=k then(kv.1,y)else kv) (xs.map (putAt k u)):=by
 induction r with
 |nil=>exact .nil|@cons p q ps qs h t ih=>
  rw[Yy,Yy];refine .cons ?_ ih;obtain⟨h1,h2,h3⟩:=h;unfold putAt;by_cases e:p.1=k
  .rw[if_pos e,if_pos (h1.symm.trans e)];exact⟨h1,h2,ry⟩
  .rw[if_neg e,if_neg (λz=>e (h1.trans z))];exact⟨h1,h2,h3⟩
theorem KT.put(r:KT H kvs xs)(k:List Key){b:Yq}{y:V}(hb:H b=Ya (.tup (k.map kV)))(ry:RelV y u):
  KT H (putK kvs k y) (storedH xs k b u):=by
 have e:(kvs.any λkv=>decide (kv.1=k))=(tO xs k).isSome:=by rw[Z6,(r.val k).AbU,Option.isSome_map]
 unfold putK storedH;rw[e];by_cases q:(tO xs k).isSome=true
 .rw[if_pos q,if_pos q];exact r.repl k ry
 .rw[if_neg q,if_neg q];exact Paired.snoc r ⟨rfl,hb,ry⟩
theorem KT.keeps{H':Hp}(r:KT H kvs xs)(ht:∀b ys,H b=Ya (.tup ys)->H' b=Ya (.tup ys)):KT H' kvs xs:=Paired.Ms r λ_ _ z=>⟨z.1,ht _ _ z.2.1,z.2.2⟩
section
variable {P:Y3} {w:aO} {H:Hp} {h:aq} {a:Yq}
theorem Z8{u:HO}(ok:cV P w H h)(e:Rd H a u):bZ P w H h a u:=e.ok ok
theorem Qm{kvs:List (Key×V)}(ok:cV P w H h)(e:Rd H a (.dK kvs)):kvs.length<=bj/\(a==vg)=false/\∃vs,KV kvs vs/\h.DictOf (mO P w) a vs:=show bZ P w H h a (.dK kvs)from Z8 ok e
theorem ZuH{kvs:List (Key×V)}(ok:cV P w H h)(e:H a=Ya (.dK kvs)):kvs.length<=bj/\(a==vg)=false/\∃vs,KV kvs vs/\h.DictOf (mO P w) a vs:=Qm ok (.inl e)
theorem Z9{ks:List Key}(ok:cV P w H h)(e:H a=Ya (.tup (ks.map kV))):(Ho (mO P w)).is h ks a:=by obtain⟨_,its,r,o,h1,h2,n,h3⟩:=(show bZ P w H h a (.tup (ks.map kV))from ok a _ e);exact⟨o,its.toArray,n,h1,h2.1,h3,by simpa using Z7 r⟩
theorem Z_(ok:cV P w H h)(e:Rd H a (.dT kvs)):kvs.length<=bj/\(a==vg)=false/\
  ∃xs,KT H kvs xs/\h.DictOfH (Ho (mO P w)) a xs:=by
 obtain⟨z,y,xs,r,o,es,ep,h1,h2,h3,h4,h5⟩:=(show bZ P w H h a (.dT kvs)from Z8 ok e);refine⟨z,y,xs,r,o,es,ep,h1,h2,h3,h4,λx hx=>?_,h5⟩;have all:∀{l:List (List Key×V)} {m:List (List Key×Yq×Yd)},KT H l m->∀x∈m,(Ho (mO P w)).is h x.1 x.2.1:=by
  intro l m q
  induction q with
  |nil=>intro x hx;exact nomatch hx|@cons p q ps qs hq t ih=>
   intro x hx;rcases Y1.mp hx with e|hx
   .subst e;exact Z9 ok (by rw[←hq.1];exact hq.2.1)
   .exact ih x hx
 exact all r x hx
end
def xV(H:Hp)(a:Yq)(y:V)(r:Option V):Prop:=(∃kvs k,Rd H a (.dK kvs)/\y=kV k/\r=lJ kvs k)\/∃kvs k b,Rd H a (.dT kvs)/\y= .ref b/\H b=Ya (.tup (k.map kV))/\r=lJ kvs k
def JD(H:Hp)(a:Yq)(y v:V)(H':Hp):Prop:=
 (∃kvs k,H a=Ya (.dK kvs)/\y=kV k/\kvs.length<bj/\H'=upd H a (.dK (putK kvs k v)))\/
 ∃kvs k b,H a=Ya (.dT kvs)/\y= .ref b/\H b=Ya (.tup (k.map kV))/\kvs.length<bj/\H'=upd H a (.dT (putK kvs k v))
theorem xV.k{H:Hp}{a:Yq}{kvs:List (Key×V)}{k:Key}(e:H a=Ya (.dK kvs)):xV H a (kV k) (lJ kvs k):=.inl ⟨kvs,k,.inl e,rfl,rfl⟩
theorem xV.t{a b:Yq}{k:List Key}(e:H a=Ya (.dT kvs))(eb:H b=Ya (.tup (k.map kV))):xV H a (.ref b) (lJ kvs k):=.inr ⟨kvs,k,b,.inl e,rfl,eb,rfl⟩
theorem JD.k{H:Hp}{a:Yq}{kvs:List (Key×V)}{k:Key}{v:V}(e:H a=Ya (.dK kvs))(hl:kvs.length<bj):JD H a (kV k) v (upd H a (.dK (putK kvs k v))):=.inl ⟨kvs,k,e,rfl,hl,rfl⟩
theorem JD.t{a b:Yq}{k:List Key}{v:V}(e:H a=Ya (.dT kvs))(eb:H b=Ya (.tup (k.map kV)))(hl:kvs.length<bj):
  JD H a (.ref b) v (upd H a (.dT (putK kvs k v))):=.inr ⟨kvs,k,b,e,rfl,eb,hl,rfl⟩
section
variable {X:Cx} {pins:List (Yq×aB)} {σ:St} {H:Hp} {s:Yf} {a:Yq} {y v:V} {u r:Yd} {o:Option V} {A:bB} {E:Yd->Yf->Prop}
theorem Inv.big(I:Inv X pins σ H s):vg<s.heap.objs.size:=by have h:Y4<s.heap.objs.size:=(I.mod.glob.keeps I.bk).lt;exact tX (by decide) h
theorem ZmA{Q:Yd->Yf->Prop}(hu:A.units+1<iH)(I:Inv X pins σ H s)(g:xV H a y (Ya v))(ry:RelV y u)(h:∀w' s',Inv X pins σ H s'->RelV v w'->Q w' s'):
  Y8 (ao X.prog X.w) A (oZ (.ref a) u) Q E s:=by
 rcases g with⟨kvs,k,e,ey,l⟩|⟨kvs,k,b,e,ey,eb,l⟩
 .subst ey;obtain⟨z,hd,vs,rel,dd⟩:=Qm I.hok e;obtain⟨w',hw,jg⟩:=nU.some_of (v:=v) (o:=xq vs k) (by rw[l];exact rel.val k);exact wpAny_getItem_of (Ql ry) dd.mapOf hw (h w' _ (I.tok _) jg)
 .subst ey;cases(show u=Value.ref b from ry);obtain⟨z,hd,xs,rel,dd⟩:=Z_ I.hok e;obtain⟨w',hw,jg⟩:=nU.some_of (v:=v) (o:=(tO xs k).map (·.2)) (by rw[l];exact rel.val k);obtain⟨p,hp,hp2⟩:=Ut.mp hw;refine wpAny_getItem_heap (tupleKind_room_in1 hu) (Z9 I.hok eb) dd hp ?_;rw[hp2];exact h w' _ (I.tok _) jg
theorem Zpt{h':aq}{t':Nat}{ob:HO}(I:Inv X pins σ H s)(mu:Ec (H a))(hs:zB a s.heap h')(he:∃q,h'.get? a=Ya q)(new:bZ X.prog X.w (upd H a ob) h' a ob):
  Inv X pins σ (upd H a ob) {s with heap:=h',toks:=t'}:=
 I.write (x:=a) (e:=a) mu (.inl rfl) (λb q hb z=>(hs.2 b hb).trans z) he new
theorem Zrn{P:Y3}{H':Hp}{h':aq}{kvs:List (Key×V)}{vs:List (Key×Yd)}(z:kvs.length<=bj)(hd:(a==vg)=false)(rel:KV kvs vs)(dd:h'.DictOf (mO P w) a vs):
  bZ P w H' h' a (.dK kvs):=⟨z,hd,vs,rel,dd⟩
end
def zY(i:Expr):Prop:=∀ov iv,Hj i false ov iv=operate [ov,iv] (oZ ov iv)
variable{pos:aY}
theorem Zl0{prog:Y3}{A:bB}{E:Yd->Yf->Prop}{s:Yf}{env:cH}{value slice:Expr}{T id:String}{Q:Yd->Yf->Prop}(hl:Ni (.type T) "__getitem__" =pure (Ya (.builtin id)))(hs:zY slice)(h:Y8 (ao prog w) A (aF value env) (λo s₁=>Y8 (ao prog w) A (aF slice env) (λi s₂=>s₂.TypeIs o T/\Y8 (ao prog w) A (oZ o i) Q E s₂) E s₁) E s):
  Y8 (ao prog w) A (aF (.Subscript value slice pos) env) Q E s:=by
 refine Oi (eO h (λo s₁ h₁=>eO h₁ (λi s₂ h₂=>?_) λ_ _ x=>x) λ_ _ x=>x);obtain⟨hT,h₂⟩:=h₂;unfold Oh;refine Yc ?_;rw[getitemInPython_of_ne hT.not_modules];refine Yc (wpAny_specialOf hT hl ?_);have fin:Y8 (ao prog w) A (Hj slice false o i) (λr s₃=>Y8 (ao prog w) A (letTemporaryGo value o r>>=λ_=>pure r) Q E s₃) E s₂:=by rw[hs o i];exact wpAny_operating (eO h₂ (λr s₃ h₃=>Yc (wpAny_letTemporaryGo (Yr h₃))) λ_ _ x=>x)
 first
  |exact Yr (Yc fin)
  |exact Yc (Yr (Yc fin))
  |exact Yc fin
theorem ZjJ{X:Cx}{pins:List (Yq×aB)}{σ:St}{s:Yf}{a:Yq}{y:V}(I:Inv X pins σ H s)(g:xV H a y o):s.TypeIs (.ref a) "dict":=by
 rcases g with⟨kvs,k,e,_,_⟩|⟨kvs,k,b,e,_,_,_⟩
 .obtain⟨_,_,vs,_,dd⟩:=Qm I.hok e;exact dd.typeIs
 .obtain⟨_,_,xs,_,dd⟩:=Z_ I.hok e;exact dd.typeIs
def Zt1(td ty:TE):TE:=λσ H Q=>td σ H λx H1=>ty σ H1 λy H2=>∃a v,x= .ref a/\xV H2 a y (Ya v)/\Q v H2
section
variable {X:Cx} {o i e value:Expr} {pos pos' tpos:aY} {td ty tv:TE}
theorem Zpp(hu:X.A.units+1<iH)(ho:PE X o td)(hi:PE X i ty)(hs:zY i):PE X (.Subscript o i pos) (Zt1 td ty):=by intro pins s σ H Q I h;refine Zl0 PySem.F.slot_dict_getitem.lookup hs (aP (ho pins s σ H _ I h) λu s1 ⟨x,H1,I1,rx,q1⟩=>aP (hi pins s1 σ H1 _ I1 q1) λiv s2 ak=>?_);obtain⟨y,H2,I2,ry,a,v,ex,g,q2⟩:=ak;subst ex;obtain rfl:u=Value.ref a:=rx;exact⟨ZjJ I2 g,ZmA hu I2 g ry λw' s3 I3 jg=>⟨v,H2,I3,jg,q2⟩⟩
end
theorem ZnK{P:Y3}(h:aq)(hb:vg<h.objs.size):bZ P w H (h.push {cls:=.type "dict",data:=.dict #[]}) h.objs.size (.dK []):=⟨jU _,beq_eq_false_iff_ne.mpr (cQ (eQ hb)),[],.nil,Heap.DictOf.new h⟩
noncomputable def JF:List (TE×TE)->St->Hp->(List (V×V)->Hp->Prop)->Prop
 |[],_,H,Q=>Q [] H|(tk,tv)::r,σ,H,Q=>tk σ H λx H1=>tv σ H1 λy H2=>JF r σ H2 λps H3=>Q ((x,y)::ps) H3
noncomputable abbrev VV:List (V×V)->List (Yd×Yd)->Prop:=Paired λp q=>RelV p.1 q.1/\RelV p.2 q.2
def Es(X:Cx)(pos:aY)(keys:List (Option Expr))(values:List Expr)(mR:List (TE×TE)):Prop:=
 ∀(pins:List (Yq×aB)) (s:Yf) (σ:St) (H:Hp) (Q:List (V×V)->Hp->Prop),Inv X pins σ H s->JF mR σ H Q ->
  Y8 (ao X.prog X.w) X.A (evalPairs (pairTrees keys values X.env pos)) (λvs s'=>∃ps H',Inv X pins σ H' s'/\VV ps vs/\Q ps H') X.xe s
theorem Zqt{X:Cx}:Es X pos [] [] []:=λpins s σ H Q I h=>pairTrees_nil_walk ⟨[],H,I,.nil,h⟩
theorem Zn7{X:Cx}{k v:Expr}{ks:List (Option Expr)}{vs:List Expr}{tk tv:TE}{mR:List (TE×TE)}(hk:PE X k tk)(hv:PE X v tv)(hr:Es X pos ks vs mR):
  Es X pos (Ya k::ks) (v::vs) ((tk,tv)::mR):=λpins s σ H Q I h=>
 pairTrees_cons_walk (aP (hk pins s σ H _ I h) λu s1 ⟨x,H1,I1,rx,q1⟩=>aP (hv pins s1 σ H1 _ I1 q1) λw2 s2 ⟨y,H2,I2,ry,q2⟩=>aP (hr pins s2 σ H2 _ I2 q2) λws s3 ⟨ps,H3,I3,rel,q3⟩=>⟨(x,y)::ps,H3,I3,.cons ⟨rx,ry⟩ rel,q3⟩)
noncomputable def zZ(kvs more:List (Key×V)):List (Key×V):=more.foldl (λacc kv=>putK acc kv.1 kv.2) kvs
theorem KV.merge:∀{more:List (Key×V)} {rs:List (Key×Yd)} {kvs:List (Key×V)} {vs:List (Key×Yd)},KV more rs->KV kvs vs->KV (zZ kvs more) (merged vs rs):=by
 intro more rs kvs vs r;unfold KV at r
 induction r generalizing kvs vs with
 |nil=>intro q;exact q|@cons p q ps qs h t ih=>
  intro r0;have e:KV (putK kvs p.1 p.2) (stored vs q.1 q.2):=by have:=r0.put p.1 h.2;rw[←h.1];exact this
  exact ih e
theorem Ze6:∀(more kvs:List (Key×V)),(zZ kvs more).length<=kvs.length+more.length
 |[],kvs=>by show kvs.length<=kvs.length+0;exact q9 _ _|p::r,kvs=>by have h1:=Ze6 r (putK kvs p.1 p.2);have h2:=Zj6 kvs p.1 p.2;show(zZ (putK kvs p.1 p.2) r).length<=_;rw[Yo];exact lD 2 0xa3c1c2030c201a1c001 T1 h2 h1
theorem ZgK{P:Y3}{w:aO}:∀{kvs:List (Key×V)} {ws:List (Yd×Yd)},VV (kvs.map λkv=>(kV kv.1,kv.2)) ws->∃rs,Carries (mO P w) ws rs/\KV kvs rs
 |[],_,r=>by rw[qp]at r;cases r;exact⟨[],True.intro,.nil⟩|p::kvs,_,r=>by
  rw[Yy]at r;cases r with
  | @cons a b as bs h t=>obtain⟨rs,c,q⟩:=ZgK (P:=P) (w:=w) t;obtain⟨b1,b2⟩:=b;exact⟨(p.1,b2)::rs,⟨Ql h.1,rfl,c⟩,.cons ⟨rfl,h.2⟩ q⟩
def Zu8(mR:List (TE×TE)):TE:=λσ H Q=>∀p,H p=Ye->JF mR σ (upd H p (.dK [])) λps H2=>H2 p=Ya (.dK [])/\∃kvs:List (Key×V),ps=kvs.map (λkv=>(kV kv.1,kv.2))/\kvs.length<=15/\Q (.ref p) (upd H2 p (.dK (zZ [] kvs)))
theorem Zpx{X:Cx}{keys:List (Option Expr)}{values:List Expr}{mR:List (TE×TE)}(h:Es X pos keys values mR)(hall:keys.all (·.isSome)=true)(hl:keys.length=values.length)(h0:keys≠[])(h15:keys.length<=15):PE X (.Dict keys values pos) (Zu8 mR):=by
 intro pins s σ H Q I q;have hn:=I.hok.fresh (Yt s.heap.objs.size);have I1:=I.laid (a:=s.heap.objs.size) (o:=.dK []) (h':=s.heap.push {cls:=.type "dict",data:=.dict #[]}) (t':=s.toks) (λ_ _ q=>Yh _ q) (Yt _) (ZnK s.heap I.big);refine wpAny_Dict_walk (knd:=mO X.prog X.w) hall hl h0 h15 (aP (h pins _ σ _ _ I1 (q _ hn)) λws s2 ak=>?_);obtain⟨ps,H2,I2,rel,e,kvs,ep,lk,q2⟩:=ak;subst ep;obtain⟨rs,c,rk⟩:=ZgK (P:=X.prog) (w:=X.w) rel;obtain⟨z,hd,vs0,r0,dd⟩:=ZuH I2.hok e;cases r0;refine⟨rs,c,dd,λh' dd' hs=>⟨.ref s.heap.objs.size,_,?_,rfl,q2⟩⟩;have hz:(zZ [] kvs).length<=bj:=by have h1:=Ze6 kvs [];rw[ju]at h1;rw[mK];exact lB 2 0x10000007b00f1b1011ec001 T1 h1 lk
 have he:∃q,h'.get? s.heap.objs.size=Ya q:=let⟨q,_,_,hq,_⟩:=dd';⟨q,hq⟩;exact Zpt I2 (by rw[e];exact True.intro) hs he (Zrn hz hd (rk.merge .nil) dd')
structure M1(X:Cx)(o:Expr)(m:aj)(apos:aY)(e:Expr)(cpos:aY):Prop where
 base:oW o m X.env (aF o X.env)=aF o X.env
 few:((bN cpos (Yp [e] X.env)).all (λx=>!x.1)&&(jO cpos (jN [] X.env)).all (λx=>x.1.isSome)
  &&decide (([e]:List Expr).length+([]:List Keyword).length+(if([]:List Keyword).isEmpty then 0 else 1)<30))=true
 line:(apos.endLine==cpos.line)=true
 trees:bN cpos (Yp [e] X.env)=[(false,aF e X.env)]
structure M2(X:Cx)(o:Expr)(m:aj)(apos:aY)(e f:Expr)(cpos:aY):Prop where
 base:oW o m X.env (aF o X.env)=aF o X.env
 few:((bN cpos (Yp [e,f] X.env)).all (λx=>!x.1)&&(jO cpos (jN [] X.env)).all (λx=>x.1.isSome)
  &&decide (([e,f]:List Expr).length+([]:List Keyword).length+(if([]:List Keyword).isEmpty then 0 else 1)<30))=true
 line:(apos.endLine==cpos.line)=true
 trees:bN cpos (Yp [e,f] X.env)=[(false,aF e X.env),(false,aF f X.env)]
end L2
namespace L3
open PySem
variable{env:Zu}{T:rK}{it:lK}{hi lo:Option Int}{M:Store}
noncomputable section
inductive D where
 |non|bl (b:Bool)|int (i:Int)|str (x:List Nat)|tup (ds:List D)|aH (ds:List D)|ref (n:Nat)
 deriving Inhabited
noncomputable abbrev dJ:=Sum Int (List Nat)
inductive MO where
 |lst (xs:List D)|dct (kvs:List (dJ×D))|cR (kvs:List (dJ×D))|ins (c:List Nat) (fs:List (List Nat×D))
 deriving Inhabited
noncomputable abbrev Store:=List MO
structure X3 where
 cls:List Nat
 arg:D
inductive R3(α:Type)where
 |ok (a:α) (M:Store)|exc (x:X3) (M:Store)|bad
@[simp] noncomputable def R3.bind{α β:Type}(r:R3 α)(k:α->Store->R3 β):R3 β:=match r with
 | .ok a M=>k a M|.exc x M=>.exc x M|.bad=>.bad
theorem R3.AcW{α β:Type}(a:α)(M:Store)(k:α->Store->R3 β):(R3.ok a M).bind k=k a M:=rfl
theorem ft{C:Prop}(h:false=true):C:=Bool.noConfusion h
theorem iu{α:Type}{C:Prop}{k:α}(h:Ye=Ya k):C:=by cases h
noncomputable def cM:Nat->D->Bool
 |_,.non=>true|_,.bl _=>true|_,.int _=>true|_,.str _=>true
 |n+1,.tup ds=>ds.all (cM n)|_,_=>false
noncomputable abbrev DEEP:Nat:=60
mutual
noncomputable def fD:D->D->Bool
 | .non,.non=>true|.bl a,.bl b=>a==b|.int a,.int b=>a==b|.str a,.str b=>a==b
 | .tup a,.tup b=>gU a b|.bl a,.int b=>(if a then 1 else 0)==b|.int a,.bl b=>a==(if b then 1 else 0)|_,_=>false
noncomputable def gU:List D->List D->Bool
 |[],[]=>true|a::x,b::y=>fD a b&&gU x y|_,_=>false
end
theorem ZtT(a b:Int):fD (.int a) (.int b)=(a==b):=rfl
theorem ZqT(a b:List Nat):fD (.str a) (.str b)=(a==b):=rfl
theorem Zq7(a b:List D):fD (.tup a) (.tup b)=gU a b:=rfl
theorem ZrA:gU [] []=true:=rfl
theorem Qn(a b:D)(x y:List D):gU (a::x) (b::y)=(fD a b&&gU x y):=rfl
mutual
noncomputable def below(n:Nat):D->Bool
 | .tup ds=>eN n ds|.aH ds=>eN n ds|.ref k=>k<n|.non=>true| .bl _=>true| .int _=>true| .str _=>true
noncomputable def eN(n:Nat):List D->Bool
 |[]=>true|d::ds=>below n d&&eN n ds
end
mutual
noncomputable def same:D->D->Bool
 | .non,.non=>true|.bl a,.bl b=>a==b|.int a,.int b=>a==b|.str a,.str b=>a==b
 | .tup a,.tup b=>z6 a b|.aH a,.aH b=>z6 a b|.ref a,.ref b=>a==b|_,_=>false
noncomputable def z6:List D->List D->Bool
 |[],[]=>true|a::x,b::y=>same a b&&z6 x y|_,_=>false
end
mutual
theorem ZlL:∀{a b:D},same a b=true->a=b
 | .non,b,h=>by cases b<;>first|exact rfl|exact ft h
 | .bl a,b,h=>by cases b<;>first|exact congrArg D.bl (beq_iff_eq.mp h)|exact ft h
 | .int a,b,h=>by cases b<;>first|exact congrArg D.int (beq_iff_eq.mp h)|exact ft h
 | .str a,b,h=>by cases b<;>first|exact congrArg D.str (beq_iff_eq.mp h)|exact ft h
 | .tup a,b,h=>by cases b<;>first|exact congrArg D.tup (Qo h)|exact ft h
 | .aH a,b,h=>by cases b<;>first|exact congrArg D.aH (Qo h)|exact ft h
 | .ref a,b,h=>by cases b<;>first|exact congrArg D.ref (beq_iff_eq.mp h)|exact ft h
theorem Qo:∀{x y:List D},z6 x y=true->x=y
 |[],y,h=>by cases y<;>first|exact rfl|exact ft h
 |a::x,y,h=>by
  cases y with
  |nil=>exact ft h|cons b y=>exact have w:=Yaj.mp (h:(same a b&&z6 x y)=true);congr (congrArg _ (ZlL w.1)) (Qo w.2)
end
mutual
theorem Zlc:∀(a:D),same a a=true
 | .non=>rfl|.bl a=>beq_self_eq_true a|.int a=>beq_self_eq_true a|.str a=>beq_self_eq_true a
 | .tup a=>Qp a|.aH a=>Qp a|.ref a=>beq_self_eq_true a
theorem Qp:∀(x:List D),z6 x x=true
 |[]=>rfl|a::x=>Yaj.mpr ⟨Zlc a,Qp x⟩
end
theorem same_iff{a b:D}:same a b=true↔a=b:=⟨ZlL,λh=>h▸Zlc a⟩
noncomputable instance:DecidableEq D:=λa b=>decidable_of_iff (same a b=true) same_iff
noncomputable instance:DecidableEq MO:=λa b=>match a,b with
 | .lst x,.lst y=>if h:x=y then isTrue (by rw[h])else isFalse (by intro e;cases e;exact h rfl)|.dct x,.dct y=>if h:x=y then isTrue (by rw[h])else isFalse (by intro e;cases e;exact h rfl)|.cR x,.cR y=>if h:x=y then isTrue (by rw[h])else isFalse (by intro e;cases e;exact h rfl)|.ins c x,.ins d y=>if h:c=d/\x=y then isTrue (by rw[h.1,h.2])else isFalse (by intro e;cases e;exact h ⟨rfl,rfl⟩)
 | .ins _ _,.lst _=>isFalse (by intro e;cases e)|.ins _ _,.dct _=>isFalse (by intro e;cases e)|.ins _ _,.cR _=>isFalse (by intro e;cases e)|.lst _,.ins _ _=>isFalse (by intro e;cases e)
 | .dct _,.ins _ _=>isFalse (by intro e;cases e)|.cR _,.ins _ _=>isFalse (by intro e;cases e)|.lst _,.dct _=>isFalse (by intro e;cases e)|.lst _,.cR _=>isFalse (by intro e;cases e)
 | .dct _,.lst _=>isFalse (by intro e;cases e)|.dct _,.cR _=>isFalse (by intro e;cases e)|.cR _,.lst _=>isFalse (by intro e;cases e)|.cR _,.dct _=>isFalse (by intro e;cases e)
@[simp] noncomputable abbrev SZ:Nat:=1000000
noncomputable abbrev Zu:=List (Option D)
noncomputable abbrev E3:=Zu->Store->R3 D
noncomputable abbrev cN:=Zu->Store->R3 (List D)
noncomputable abbrev F3:=List D->Store->R3 D
inductive O3 where
 |nx (env:Zu) (M:Store)|rt (d:D) (M:Store)|bk (env:Zu) (M:Store)|ct (env:Zu) (M:Store)|exc (x:X3) (M:Store)|bad
noncomputable abbrev S3:=Zu->Store->O3
@[simp] noncomputable def Zb(i:Nat):E3:=λenv M=>match env[i]? with
 |some (Ya d)=>.ok d M|_=>.bad
@[simp] noncomputable def eC(d:D):E3:=λ_ M=>.ok d M
@[simp] noncomputable def e1(op:D->Store->R3 D)(f:E3):E3:=λenv M=>(f env M).bind op
@[simp] noncomputable def e2(op:D->D->Store->R3 D)(f g:E3):E3:=λenv M=>(f env M).bind λa M1=>(g env M1).bind λb M2=>op a b M2
@[simp] noncomputable def Zf:cN:=λ_ M=>.ok [] M
@[simp] noncomputable def Za(f:E3)(g:cN):cN:=λenv M=>(f env M).bind λa M1=>(g env M1).bind λb M2=>.ok (a::b) M2
@[simp] noncomputable def alloc(o:MO)(M:Store):R3 D:=.ok (.ref M.length) (M++[o])
section
local instance (priority:=100000) AdT (p:Prop):Decidable p:=Ys p
@[simp] noncomputable def n6(g:cN):E3:=λenv M=>(g env M).bind λds M1=>if ds.length<=SZ then .ok (.tup ds) M1 else .bad
end
section
local instance (priority:=100000) AdU (p:Prop):Decidable p:=Ys p
@[simp] noncomputable def bA(g:cN):E3:=λenv M=>(g env M).bind λds M1=>if ds.length<=SZ then alloc (.lst ds) M1 else .bad
end
@[simp] noncomputable def cT(f g:E3):E3:=λenv M=>(f env M).bind λa M1=>match a with
 | .bl true=>g env M1|.bl false=>.ok (.bl false) M1|_=>.bad
@[simp] noncomputable def jh(f g:E3):E3:=λenv M=>(f env M).bind λa M1=>match a with
 | .bl false=>g env M1|.bl true=>.ok (.bl true) M1|_=>.bad
noncomputable def gW(a:D)(M:Store):R3 D:=match a with
 | .bl b=>.ok (.bl (!b)) M|_=>.bad
@[simp] theorem ZuY:∀b,gW (.bl b) M= .ok (.bl (!b)) M:=λ_=>rfl
@[simp] noncomputable def um(c f g:E3):E3:=λenv M=>(c env M).bind λa M1=>match a with
 | .bl true=>f env M1|.bl false=>g env M1|_=>.bad
@[simp] noncomputable def aR(F:F3)(g:cN):E3:=λenv M=>(g env M).bind λds M1=>F ds M1
section
local instance (priority:=100000) AdV (p:Prop):Decidable p:=Ys p
noncomputable def Zk(a b:D)(M:Store):R3 D:=match a,b with
 | .int i,.int j=>.ok (.int (i+j)) M|.str x,.str y=>if x.length+y.length<=SZ then .ok (.str (x++y)) M else .bad|.tup x,.tup y=>if x.length+y.length<=SZ then .ok (.tup (x++y)) M else .bad|.ref n,.ref m=>match M[n]?,M[m]? with
  |some (.lst x),Ya (.lst y)=>if x.length+y.length<=SZ then alloc (.lst (x++y)) M else .bad|_,_=>.bad
 |_,_=>.bad
@[simp] theorem ZoL:∀i j,Zk (.int i) (.int j) M= .ok (.int (i+j)) M:=λ_ _=>rfl
@[simp] theorem Zo8:∀x y,Zk (.str x) (.str y) M=(if x.length+y.length<=SZ then .ok (.str (x++y)) M else .bad):=λ_ _=>rfl
@[simp] theorem ZnJ:∀x y,Zk (.tup x) (.tup y) M=(if x.length+y.length<=SZ then .ok (.tup (x++y)) M else .bad):=λ_ _=>rfl
@[simp] theorem Zj4:∀n m,Zk (.ref n) (.ref m) M=(match M[n]?,M[m]? with
  |some (.lst x),Ya (.lst y)=>if x.length+y.length<=SZ then alloc (.lst (x++y)) M else .bad|_,_=>.bad):=λ_ _=>rfl
end
noncomputable def dY(a b:D)(M:Store):R3 D:=match a,b with
 | .int i,.int j=>.ok (.int (i-j)) M|_,_=>.bad
@[simp] theorem ZtJ:∀i j,dY (.int i) (.int j) M= .ok (.int (i-j)) M:=λ_ _=>rfl
section
local instance (priority:=100000) AdW (p:Prop):Decidable p:=Ys p
noncomputable def vV(i j:Int):Bool:=(decide (-(2^64)<i)&&decide (i<2^64))|| (decide (-(2^64)<j)&&decide (j<2^64))
end
section
local instance (priority:=100000) AdX (p:Prop):Decidable p:=Ys p
noncomputable def cZ(a b:D)(M:Store):R3 D:=match a,b with
 | .int i,.int j=>if vV i j then .ok (.int (i*j)) M else .bad|.str x,.int k=>if x.length*k.toNat<=SZ/\k<1000000/\ -1000000<k then .ok (.str (Yj k.toNat x).flatten) M else .bad|.ref n,.int k=>match M[n]? with
  |some (.lst x)=>if x.length*k.toNat<=SZ/\k<1000000/\ -1000000<k then alloc (.lst (Yj k.toNat x).flatten) M else .bad|_=>.bad
 |_,_=>.bad
@[simp] theorem Znz:∀i j,cZ (.int i) (.int j) M=(if vV i j then .ok (.int (i*j)) M else .bad):=λ_ _=>rfl
@[simp] theorem JG:∀x k,cZ (.str x) (.int k) M=(if x.length*k.toNat<=SZ/\k<1000000/\ -1000000<k then .ok (.str (Yj k.toNat x).flatten) M else .bad):=λ_ _=>rfl
@[simp] theorem ZoO:∀n k,cZ (.ref n) (.int k) M=(match M[n]? with
  |some (.lst x)=>if x.length*k.toNat<=SZ/\k<1000000/\ -1000000<k then alloc (.lst (Yj k.toNat x).flatten) M else .bad|_=>.bad):=λ_ _=>rfl
end
noncomputable def aQ(a b:D)(M:Store):R3 D:=match a,b with
 | .int i,.int j=>if 0<j then .ok (.int (i % j)) M else .bad|_,_=>.bad
@[simp] theorem Zji:∀i j,aQ (.int i) (.int j) M=(if 0<j then .ok (.int (i % j)) M else .bad):=λ_ _=>rfl
section
local instance (priority:=100000) AdY (p:Prop):Decidable p:=Ys p
noncomputable def bD(a b:D)(M:Store):R3 D:=match a,b with
 | .int i,.int j=>if 0<j/\j<1073741824 then .ok (.int (i / j)) M else .bad|_,_=>.bad
@[simp] theorem Zh3:∀i j,bD (.int i) (.int j) M=(if 0<j/\j<1073741824 then .ok (.int (i / j)) M else .bad):=λ_ _=>rfl
end
noncomputable def vW(a b:D)(M:Store):R3 D:=match a,b with
 | .int i,.int j=>if 0<=j/\j<=1000/\i.natAbs<1000 then .ok (.int (i^j.toNat)) M else .bad|_,_=>.bad
@[simp] theorem ZjK:∀i j,vW (.int i) (.int j) M=(if 0<=j/\j<=1000/\i.natAbs<1000 then .ok (.int (i^j.toNat)) M else .bad):=λ_ _=>rfl
noncomputable def pG(a:D)(M:Store):R3 D:=match a with
 | .int i=>.ok (.int (-i)) M|_=>.bad
@[simp] theorem Zt8:∀i,pG (.int i) M= .ok (.int (-i)) M:=λ_=>rfl
noncomputable def qy(a b:D)(M:Store):R3 D:=match a,b with
 | .int i,.int j=>.ok (.bl (decide (i<j))) M|_,_=>.bad
@[simp] theorem z7:∀i j,qy (.int i) (.int j) M= .ok (.bl (decide (i<j))) M:=λ_ _=>rfl
noncomputable def eX(a b:D)(M:Store):R3 D:=match a,b with
 | .int i,.int j=>.ok (.bl (decide (j<i))) M|_,_=>.bad
@[simp] theorem vX:∀i j,eX (.int i) (.int j) M= .ok (.bl (decide (j<i))) M:=λ_ _=>rfl
noncomputable def Qq(a b:D)(M:Store):R3 D:=match a,b with
 | .int i,.int j=>.ok (.bl (decide (j<=i))) M|_,_=>.bad
@[simp] theorem ZlQ:∀i j,Qq (.int i) (.int j) M= .ok (.bl (decide (j<=i))) M:=λ_ _=>rfl
noncomputable def qz(a b:D)(M:Store):Option Bool:=match a,b with
 | .ref n,.ref m=>match M[n]?,M[m]? with
  |some (.lst x),Ya (.lst y)=>if x.all (cM DEEP)&&y.all (cM DEEP)then Ya (gU x y)else Ye|_,_=>Ye
 | .int i,.int j=>Ya (decide (i=j))|.str x,.str y=>Ya (decide (x=y))|.bl x,.bl y=>Ya (decide (x=y))|.tup x,.tup y=>if x.all (cM DEEP)&&y.all (cM DEEP)then Ya (gU x y)else Ye
 |_,_=>Ye
@[simp] theorem jY:∀n m,qz (.ref n) (.ref m) M=(match M[n]?,M[m]? with
  |some (.lst x),Ya (.lst y)=>if x.all (cM DEEP)&&y.all (cM DEEP)then Ya (gU x y)else Ye|_,_=>Ye):=λ_ _=>rfl
@[simp] theorem jZ:∀i j,qz (.int i) (.int j) M=Ya (decide (i=j)):=λ_ _=>rfl
@[simp] theorem j4:∀x y,qz (.str x) (.str y) M=Ya (decide (x=y)):=λ_ _=>rfl
@[simp] theorem j5:∀x y,qz (.bl x) (.bl y) M=Ya (decide (x=y)):=λ_ _=>rfl
@[simp] theorem j6:∀x y,qz (.tup x) (.tup y) M=(if x.all (cM DEEP)&&y.all (cM DEEP)then Ya (gU x y)else Ye):=λ_ _=>rfl
@[simp] noncomputable def bh(a b:D)(M:Store):R3 D:=match qz a b M with
 |some r=>.ok (.bl r) M|none=>.bad
@[simp] noncomputable def dg(a b:D)(M:Store):R3 D:=match qz a b M with
 |some r=>.ok (.bl (!r)) M|none=>.bad
noncomputable def pH(a b:D)(M:Store):R3 D:=match b with
 | .non=>.ok (.bl (decide (a= .non))) M|_=>.bad
@[simp] theorem z8{a:D}:pH a (.non) M= .ok (.bl (decide (a= .non))) M:=rfl
noncomputable def eY:D->Bool
 | .non=>true| .bl _=>true| .int _=>true| .str _=>true|_=>false
noncomputable def Qs(a:D)(y:List Nat):Option Bool:=match a with
 | .str [c]=>Ya (decide (c∈y))|_=>Ye
@[simp] theorem Zv9{y:List Nat}:∀c,Qs (.str [c]) y=Ya (decide (c∈y)):=λ_=>rfl
noncomputable def inD(a b:D):Option Bool:=match b with
 | .str y=>Qs a y|.tup ys=>if eY a&&ys.all eY then Ya (ys.any λy=>fD y a)else Ye|_=>Ye
@[simp] theorem Zre{a:D}:∀y,inD a (.str y)=Qs a y:=λ_=>rfl
@[simp] theorem Qt{a:D}:∀ys,inD a (.tup ys)=(if eY a&&ys.all eY then Ya (ys.any λy=>fD y a)else Ye):=λ_=>rfl
@[simp] noncomputable def jy(a b:D)(M:Store):R3 D:=match inD a b with
 |some r=>.ok (.bl r) M|none=>.bad
@[simp] noncomputable def Et(a b:D)(M:Store):R3 D:=match inD a b with
 |some r=>.ok (.bl (!r)) M|none=>.bad
noncomputable def jE(n:Nat)(i:Int):Option Nat:=if 0<=i then(if i<n then Ya i.toNat else Ye)else if -(n:Int)<=i then Ya (i+n).toNat else Ye
noncomputable def dM{α:Type}(xs:List α)(i:Int):Option α:=(jE xs.length i).bind λj=>xs[j]?
noncomputable def n_:D->Option dJ
 | .int i=>Ya (.inl i)|.str x=>Ya (.inr x)|_=>Ye
@[simp] theorem ZvO:n_ .non=Ye:=rfl
@[simp] theorem Zv2(b:Bool):n_ (.bl b)=Ye:=rfl
@[simp] theorem ZvC(x:List D):n_ (.tup x)=Ye:=rfl
@[simp] theorem Zwj(x:List D):n_ (.aH x)=Ye:=rfl
@[simp] theorem Zww(n:Nat):n_ (.ref n)=Ye:=rfl
@[simp] theorem Zvt:∀i,n_ (.int i)=Ya (.inl i):=λ_=>rfl
@[simp] theorem ZvB:∀x,n_ (.str x)=Ya (.inr x):=λ_=>rfl
noncomputable def rN:List (dJ×D)->dJ->Option D
 |[],_=>Ye|(k,v)::r,x=>if k=x then Ya v else rN r x
section
local instance (priority:=100000) AdZ (p:Prop):Decidable p:=Ys p
noncomputable def aM(a b:D)(M:Store):R3 D:=match a,b with
 | .tup ds,.int i=>match dM ds i with
  |some d=>.ok d M|none=>.bad
 | .aH ds,.int i=>match dM ds i with
  |some d=>.ok d M|none=>.bad
 | .str x,.int i=>match dM x i with
  |some c=>if x.length<=SZ then .ok (.str [c]) M else .bad|none=>.bad
 | .ref n,.int i=>match M[n]? with
  |some (.lst ds)=>match dM ds i with
   |some d=>.ok d M|none=>.bad
  |_=>.bad
 |_,_=>.bad
@[simp] theorem JH:∀ds i,aM (.tup ds) (.int i) M=(match dM ds i with
  |some d=>.ok d M|none=>.bad):=λ_ _=>rfl
@[simp] theorem JK:∀ds i,aM (.aH ds) (.int i) M=(match dM ds i with
  |some d=>.ok d M|none=>.bad):=λ_ _=>rfl
@[simp] theorem JL:∀x i,aM (.str x) (.int i) M=(match dM x i with
  |some c=>if x.length<=SZ then .ok (.str [c]) M else .bad|none=>.bad):=λ_ _=>rfl
@[simp] theorem JM:∀n i,aM (.ref n) (.int i) M=(match M[n]? with
  |some (.lst ds)=>match dM ds i with
   |some d=>.ok d M|none=>.bad
  |_=>.bad):=λ_ _=>rfl
end
noncomputable def uo:Option MO->Option (List (dJ×D))
 |some (.dct kvs)=>Ya kvs|some (.cR kvs)=>Ya kvs|_=>Ye
@[simp] theorem Zvg:uo Ye=Ye:=rfl
@[simp] theorem Zvx(x:List D):uo (Ya (.lst x))=Ye:=rfl
@[simp] theorem Zvb(c:List Nat)(f:List (List Nat×D)):uo (Ya (.ins c f))=Ye:=rfl
@[simp] theorem ZtA:∀kvs,uo (Ya (.dct kvs))=Ya kvs:=λ_=>rfl
@[simp] theorem ZtH:∀kvs,uo (Ya (.cR kvs))=Ya kvs:=λ_=>rfl
noncomputable def pI(a b:D)(M:Store):R3 D:=match a with
 | .ref n=>match uo M[n]?,n_ b with
  |some kvs,Ya x=>match rN kvs x with
   |some d=>.ok d M|none=>.bad
  |_,_=>.bad
 |_=>.bad
@[simp] theorem Qu{b:D}:∀n,pI (.ref n) b M=(match uo M[n]?,n_ b with
  |some kvs,Ya x=>match rN kvs x with
   |some d=>.ok d M|none=>.bad
  |_,_=>.bad):=λ_=>rfl
noncomputable def aG(n d:Nat):Option Int->Nat
 |none=>d|some v=>if v<0 then(v+(n:Int)).toNat else dm v.toNat n
noncomputable def cutD{α:Type}(xs:List α)(lo hi:Option Int):List α:=(xs.drop (aG xs.length 0 lo)).take (aG xs.length xs.length hi-aG xs.length 0 lo)
noncomputable abbrev rO:=Zu->Store->R3 (Option Int)
@[simp] noncomputable def aV:rO:=λ_ M=>.ok Ye M
@[simp] noncomputable def aN(f:E3):rO:=λenv M=>(f env M).bind λa M1=>match a with
 | .int i=>.ok (Ya i) M1|_=>.bad
section
local instance (priority:=100000) Ad0 (p:Prop):Decidable p:=Ys p
noncomputable def z9(a:D)(lo hi:Option Int)(M:Store):R3 D:=match a with
 | .tup ds=>.ok (.tup (cutD ds lo hi)) M|.aH ds=>alloc (.lst (cutD ds lo hi)) M|.str x=>if x.length<=SZ then .ok (.str (cutD x lo hi)) M else .bad|.ref n=>match M[n]? with
  |some (.lst ds)=>alloc (.lst (cutD ds lo hi)) M|_=>.bad
 |_=>.bad
@[simp] theorem lM:∀ds,z9 (.tup ds) lo hi M= .ok (.tup (cutD ds lo hi)) M:=λ_=>rfl
@[simp] theorem lO:∀ds,z9 (.aH ds) lo hi M=alloc (.lst (cutD ds lo hi)) M:=λ_=>rfl
@[simp] theorem lQ:∀x,z9 (.str x) lo hi M=(if x.length<=SZ then .ok (.str (cutD x lo hi)) M else .bad):=λ_=>rfl
@[simp] theorem lR:∀n,z9 (.ref n) lo hi M=(match M[n]? with
  |some (.lst ds)=>alloc (.lst (cutD ds lo hi)) M|_=>.bad):=λ_=>rfl
end
@[simp] noncomputable def aW(f:E3)(lo hi:rO):E3:=λenv M=>(f env M).bind λa M1=>(lo env M1).bind λl M2=>(hi env M2).bind λh M3=>z9 a l h M3
section
local instance (priority:=100000) Ad1 (p:Prop):Decidable p:=Ys p
noncomputable def a_(ds:List D)(M:Store):R3 D:=match ds with
 |[.tup x]=>.ok (.int x.length) M|[.aH x]=>.ok (.int x.length) M|[.str x]=>if x.length<=SZ then .ok (.int x.length) M else .bad|[.ref n]=>match M[n]? with
  |some (.lst x)=>.ok (.int x.length) M|_=>.bad
 |_=>.bad
@[simp] theorem z_:∀x,a_ ([.tup x]) M= .ok (.int x.length) M:=λ_=>rfl
@[simp] theorem Aa:∀x,a_ ([.aH x]) M= .ok (.int x.length) M:=λ_=>rfl
@[simp] theorem Ab:∀x,a_ ([.str x]) M=(if x.length<=SZ then .ok (.int x.length) M else .bad):=λ_=>rfl
@[simp] theorem rP:∀n,a_ ([.ref n]) M=(match M[n]? with
  |some (.lst x)=>.ok (.int x.length) M|_=>.bad):=λ_=>rfl
end
noncomputable def uq(ds:List D)(M:Store):R3 D:=match ds with
 |[.tup x]=>.ok (.tup x) M|[.aH x]=>.ok (.tup x) M|[.ref n]=>match M[n]? with
  |some (.lst x)=>.ok (.tup x) M|_=>.bad
 |_=>.bad
@[simp] theorem ZhM:∀x,uq ([.tup x]) M= .ok (.tup x) M:=λ_=>rfl
@[simp] theorem ZhF:∀x,uq ([.aH x]) M= .ok (.tup x) M:=λ_=>rfl
@[simp] theorem Ac:∀n,uq ([.ref n]) M=(match M[n]? with
  |some (.lst x)=>.ok (.tup x) M|_=>.bad):=λ_=>rfl
noncomputable def Ad(ds:List D)(M:Store):R3 D:=match ds with
 |[.tup x]=>alloc (.lst x) M|[.aH x]=>alloc (.lst x) M|[.ref n]=>match M[n]? with
  |some (.lst x)=>alloc (.lst x) M|_=>.bad
 |_=>.bad
@[simp] theorem Znv:∀x,Ad ([.tup x]) M=alloc (.lst x) M:=λ_=>rfl
@[simp] theorem Znt:∀x,Ad ([.aH x]) M=alloc (.lst x) M:=λ_=>rfl
@[simp] theorem Ae:∀n,Ad ([.ref n]) M=(match M[n]? with
  |some (.lst x)=>alloc (.lst x) M|_=>.bad):=λ_=>rfl
inductive rK where
 |int|bool|str|list|tuple
 deriving DecidableEq
noncomputable def rQ(T:rK)(d:D)(M:Store):Option Bool:=match d with
 | .non=>Ya false|.bl _=>Ya (T== .bool|| T== .int)|.int _=>Ya (T== .int)|.str _=>Ya (T== .str)
 | .tup _=>Ya (T== .tuple)|.aH _=>Ye|.ref n=>match M[n]? with
  |some (.lst _)=>Ya (T== .list)|some (.dct _)=>Ya false|some (.cR _)=>Ye|some (.ins _ _)=>Ye
  |none=>Ye
@[simp] theorem Zvk:rQ T (.non) M=Ya false:=rfl
@[simp] theorem Zvv:∀w0,rQ T (.bl w0) M=Ya (T== .bool|| T== .int):=λ_=>rfl
@[simp] theorem Zvc:∀w0,rQ T (.int w0) M=Ya (T== .int):=λ_=>rfl
@[simp] theorem Zvq:∀w0,rQ T (.str w0) M=Ya (T== .str):=λ_=>rfl
@[simp] theorem Zve:∀w0,rQ T (.tup w0) M=Ya (T== .tuple):=λ_=>rfl
@[simp] theorem Zvu:∀w0,rQ T (.aH w0) M=Ye:=λ_=>rfl
@[simp] theorem Zvj:∀n,rQ T (.ref n) M=(match M[n]? with
  |some (.lst _)=>Ya (T== .list)|some (.dct _)=>Ya false|some (.cR _)=>Ye|some (.ins _ _)=>Ye
  |none=>Ye):=λ_=>rfl
@[simp] noncomputable def xW(T:rK)(d:D)(M:Store):R3 D:=match rQ T d M with
 |some b=>.ok (.bl b) M|none=>.bad
noncomputable def vY:D->Bool
 | .bl _=>true|_=>false
noncomputable def qC:D->Bool
 | .bl b=>b|_=>false
noncomputable def allB(l:List D):Option Bool:=if l.all vY then Ya (l.all qC)else Ye
noncomputable def Af(ds:List D)(M:Store):R3 D:=match ds with
 | [.ref n]=>match M[n]? with
  |some (.lst x)=>match allB x with
   |some b=>.ok (.bl b) M|none=>.bad
  |_=>.bad
 |_=>.bad
@[simp] theorem Ag:∀n,Af ([.ref n]) M=(match M[n]? with
  |some (.lst x)=>match allB x with
   |some b=>.ok (.bl b) M|none=>.bad
  |_=>.bad):=λ_=>rfl
noncomputable def pJ(o:D)(ds:List D)(M:Store):R3 D:=match o,ds with
 | .str x,[.str y]=>if x.length<=SZ/\y.length<=SZ then .ok (.bl (y.isPrefixOf x)) M else .bad|_,_=>.bad
@[simp] theorem Ah:∀x y,pJ (.str x) ([.str y]) M=(if x.length<=SZ/\y.length<=SZ then .ok (.bl (y.isPrefixOf x)) M else .bad):=λ_ _=>rfl
section
local instance (priority:=100000) AdO (p:Prop):Decidable p:=Ys p
noncomputable def pK(o:D)(ds:List D)(M:Store):R3 D:=match o,ds with
 | .ref n,[d]=>match M[n]? with
  |some (.lst x)=>if x.length<SZ then .ok .non (M.set n (.lst (x++[d])))else .bad|_=>.bad
 |_,_=>.bad
@[simp] theorem JN:∀n d,pK (.ref n) ([d]) M=(match M[n]? with
  |some (.lst x)=>if x.length<SZ then .ok .non (M.set n (.lst (x++[d])))else .bad|_=>.bad):=λ_ _=>rfl
end
section
local instance (priority:=100000) Ad2 (p:Prop):Decidable p:=Ys p
noncomputable def xX(o:D)(ds:List D)(M:Store):R3 D:=match o,ds with
 | .ref n,[.int i]=>match M[n]? with
  | some (.lst x)=>if -1000000<=i/\i<=1000000 then match jE x.length i with
   |some k=>match x[k]? with
    |some d=>.ok d (M.set n (.lst (x.eraseIdx k)))|none=>.bad
   |none=>.bad
   else .bad
  |_=>.bad
 | .ref n,[]=>match M[n]? with
  |some (.lst x)=>match x[x.length-1]? with
   |some d=>.ok d (M.set n (.lst x.dropLast))|none=>.bad
  |_=>.bad
 |_,_=>.bad
@[simp] theorem Qv:∀n i,xX (.ref n) ([.int i]) M=(match M[n]? with
  | some (.lst x)=>if -1000000<=i/\i<=1000000 then match jE x.length i with
   |some k=>match x[k]? with
    |some d=>.ok d (M.set n (.lst (x.eraseIdx k)))|none=>.bad
   |none=>.bad
   else .bad
  |_=>.bad):=λ_ _=>rfl
@[simp] theorem ZlG:∀n,xX (.ref n) ([]) M=(match M[n]? with
  |some (.lst x)=>match x[x.length-1]? with
   |some d=>.ok d (M.set n (.lst x.dropLast))|none=>.bad
  |_=>.bad):=λ_=>rfl
end
noncomputable def bC(a:D)(_:Store):Bool:=match a with
 | .str _=>true|_=>false
@[simp] theorem Qw{w_:Store}:∀w0,bC (.str w0) w_=true:=λ_=>rfl
noncomputable def j7(a:D)(M:Store):Bool:=match a with
 | .ref n=>match M[n]? with
  |some (.lst _)=>true|_=>false
 |_=>false
@[simp] theorem Eu:∀n,j7 (.ref n) M=(match M[n]? with
  |some (.lst _)=>true|_=>false):=λ_=>rfl
@[simp] noncomputable def aZ(ty:D->Store->Bool)(m:D->List D->Store->R3 D)(o:E3)(g:cN):E3:=λenv M=>(o env M).bind λa M1=>if ty a M1 then(g env M1).bind λds M2=>m a ds M2 else .bad
@[simp] noncomputable def Zx(b:List D->Store->R3 D)(g:cN):E3:=λenv M=>(g env M).bind λds M1=>b ds M1
noncomputable def putD(k:dJ)(v:D)(kvs:List (dJ×D)):List (dJ×D):=if(kvs.any λp=>decide (p.1=k))=true then kvs.map (λp=>if p.1=k then(p.1,v)else p)else kvs++[(k,v)]
noncomputable abbrev vZ:=Zu->Store->R3 (List (dJ×D))
@[simp] noncomputable def v4:vZ:=λ_ M=>.ok [] M
@[simp] noncomputable def bK(f g:E3)(r:vZ):vZ:=λenv M=>(f env M).bind λa M1=>(g env M1).bind λb M2=>match n_ a with
 |some k=>(r env M2).bind λl M3=>.ok ((k,b)::l) M3|none=>.bad
noncomputable def dictOf(l:List (dJ×D)):List (dJ×D):=l.foldl (λacc p=>putD p.1 p.2 acc) []
@[simp] noncomputable def v5(r:vZ):E3:=λenv M=>(r env (M++[.dct []])).bind λl M1=>match M1[M.length]? with
 |some (.dct [])=>if l.length<=15 then .ok (.ref M.length) (M1.set M.length (.dct (dictOf l)))else .bad|_=>.bad
@[simp] noncomputable def e3(op:D->D->D->Store->R3 D)(f g h:E3):E3:=λenv M=>(f env M).bind λa M1=>(g env M1).bind λb M2=>(h env M2).bind λc M3=>op a b c M3
noncomputable def JP(v a b:D)(M:Store):R3 D:=match a,b with
 | .ref n,.int i=>match M[n]? with
  |some (.lst xs)=>match jE xs.length i with
   |some j=>.ok .non (M.set n (.lst (xs.set j v)))|none=>.bad
  |_=>.bad
 |_,_=>.bad
@[simp] theorem Qx{v:D}:∀n i,JP v (.ref n) (.int i) M=(match M[n]? with
  |some (.lst xs)=>match jE xs.length i with
   |some j=>.ok .non (M.set n (.lst (xs.set j v)))|none=>.bad
  |_=>.bad):=λ_ _=>rfl
noncomputable def Ew(ds:List D)(M:Store):R3 D:=match ds with
 |[.int i]=>.ok (.int i) M|[.bl b]=>.ok (.int (if b then 1 else 0)) M|_=>.bad
@[simp] theorem ZvA:∀i,Ew ([.int i]) M= .ok (.int i) M:=λ_=>rfl
@[simp] theorem Zvm:∀b,Ew ([.bl b]) M= .ok (.int (if b then 1 else 0)) M:=λ_=>rfl
noncomputable def aU:S3:=λenv M=>.nx env M
noncomputable def Zo(f g:S3):S3:=λenv M=>match f env M with
 | .nx env' M'=>g env' M'|o=>o
noncomputable def aJ(c:E3)(f g:S3):S3:=λenv M=>match c env M with
 | .ok (.bl true) M1=>f env M1|.ok (.bl false) M1=>g env M1|.exc x M1=>.exc x M1|_=>.bad
noncomputable def aK(f:E3):S3:=λenv M=>match f env M with
 | .ok d M1=>.rt d M1|.exc x M1=>.exc x M1|.bad=>.bad
noncomputable def fG(f:E3):S3:=λenv M=>match f env M with
 | .ok _ M1=>.nx env M1|.exc x M1=>.exc x M1|.bad=>.bad
noncomputable def aD(i:Nat)(f:E3):S3:=λenv M=>match f env M with
 | .ok d M1=>.nx (env.set i (Ya d)) M1|.exc x M1=>.exc x M1|.bad=>.bad
noncomputable def Ai(o i f:E3):S3:=fG (e3 JP f o i)
noncomputable abbrev G3:=D->Zu->Option Zu
@[simp] noncomputable def fO(i:Nat):G3:=λd env=>Ya (env.set i (Ya d))
noncomputable def bindAll:List Nat->List D->Zu->Option Zu
 |[],[],env=>Ya env|i::is,d::ds,env=>bindAll is ds (env.set i (Ya d))|_,_,_=>Ye
@[simp] theorem Zsd:∀env,bindAll ([]) ([]) (env)=Ya env:=λ_=>rfl
@[simp] theorem Zsk:∀i is d ds env,bindAll (i::is) (d::ds) (env)=bindAll is ds (env.set i (Ya d)):=λ_ _ _ _ _=>rfl
@[simp] noncomputable def ou(is:List Nat):G3:=λd env=>match d with
 | .tup ds=>bindAll is ds env|_=>Ye
structure lK where
 items:List D
 lock:Option Nat
noncomputable abbrev I3:=Zu->Store->R3 lK
section
local instance (priority:=100000) AdP (p:Prop):Decidable p:=Ys p
@[simp] noncomputable def iK(f:E3):I3:=λenv M=>(f env M).bind λa M1=>match a with
 | .tup ds=>.ok ⟨ds,Ye⟩ M1|.aH ds=>.ok ⟨ds,Ye⟩ M1|.str x=>if x.length<=SZ then .ok ⟨x.map λc=>.str [c],Ye⟩ M1 else .bad|.ref n=>match M1[n]? with
  |some (.lst ds)=>.ok ⟨ds,Ya n⟩ M1|_=>.bad
 |_=>.bad
end
noncomputable def j8(lo:Int)(n:Nat):List D:=(kW n).map λ(k:Nat)=>D.int (lo+(k:Int))
section
local instance (priority:=100000) AdQ (p:Prop):Decidable p:=Ys p
@[simp] noncomputable def xY(f:E3):I3:=λenv M=>(f env M).bind λa M1=>match a with
 | .int j=>if j<=1000000/\ -1000000<=j then .ok ⟨j8 0 j.toNat,Ye⟩ M1 else .bad|_=>.bad
end
noncomputable def locked(it:lK)(M:Store):Bool:=match it.lock with
 |none=>true|some n=>decide (M[n]?=Ya (.lst it.items))
noncomputable def jz(it:lK)(g:G3)(body:S3):List D->Zu->Store->O3
 |[],env,M=>if locked it M then .nx env M else .bad|d::ds,env,M=>if locked it M then match g d env with
  |none=>.bad|some cF=>match body cF M with
   | .nx e M'=>jz it g body ds e M'|.ct e M'=>jz it g body ds e M'|.bk e M'=>.nx e M'|o=>o
  else .bad
theorem ur{g:G3}{body:S3}:jz it g body [] env M=if locked it M then .nx env M else .bad:=rfl
theorem ut{g:G3}{body:S3}{d:D}{ds:List D}:jz it g body (d::ds) env M=if locked it M then match g d env with
  |none=>.bad|some cF=>match body cF M with
   | .nx e M'=>jz it g body ds e M'|.ct e M'=>jz it g body ds e M'|.bk e M'=>.nx e M'|o=>o
  else .bad:=rfl
noncomputable def v6(i:I3)(g:G3)(body:S3):S3:=λenv M=>match i env M with
 | .ok it M1=>jz it g body it.items env M1|.exc x M1=>.exc x M1|.bad=>.bad
noncomputable def v7:List E3->Zu->Store->R3 Bool
 |[],_,M=>.ok true M|c::cs,env,M=>(c env M).bind λa M1=>match a with
  | .bl true=>v7 cs env M1|.bl false=>.ok false M1|_=>.bad
theorem ZhZ:v7 [] env M= .ok true M:=rfl
theorem ZmZ{c:E3}{cs:List E3}:v7 (c::cs) env M=(c env M).bind λa M1=>match a with
  | .bl true=>v7 cs env M1|.bl false=>.ok false M1|_=>.bad:=rfl
section
local instance (priority:=100000) Adi (p:Prop):Decidable p:=Ys p
noncomputable def iM(it:lK)(g:G3)(ifs:List E3)(elt:E3)(n:Nat):List D->Zu->Store->R3 D
 |[],_,M=>if locked it M then .ok (.ref n) M else .bad|d::ds,env,M=>if locked it M then match g d env with
  |none=>.bad|some cF=>(v7 ifs cF M).bind λb M1=>if b then(elt cF M1).bind λe M2=>match M2[n]? with
    |some (.lst x)=>if x.length<SZ then iM it g ifs elt n ds cF (M2.set n (.lst (x++[e])))else .bad|_=>.bad
   else iM it g ifs elt n ds cF M1
  else .bad
theorem ZlV{g:G3}{ifs:List E3}{elt:E3}{n:Nat}:iM it g ifs elt n [] env M=if locked it M then .ok (.ref n) M else .bad:=rfl
theorem Qy{g:G3}{ifs:List E3}{elt:E3}{n:Nat}{d:D}{ds:List D}:iM it g ifs elt n (d::ds) env M=if locked it M then match g d env with
  |none=>.bad|some cF=>(v7 ifs cF M).bind λb M1=>if b then(elt cF M1).bind λe M2=>match M2[n]? with
    |some (.lst x)=>if x.length<SZ then iM it g ifs elt n ds cF (M2.set n (.lst (x++[e])))else .bad|_=>.bad
   else iM it g ifs elt n ds cF M1
  else .bad:=rfl
end
noncomputable def mU(i:I3)(own:Nat)(g:G3)(ifs:List E3)(elt:E3):E3:=λenv M=>(i env M).bind λit M1=>iM it g ifs elt M1.length it.items (env++Yj own Ye) (M1++[.lst []])
noncomputable def Aj(n:Nat):MO->Bool
 | .lst xs=>eN n xs|.dct kvs=>eN n (kvs.map (·.2))|.cR kvs=>eN n (kvs.map (·.2))|.ins _ fs=>eN n (fs.map (·.2))
noncomputable def mV(M:Store)(d:D)(M':Store):R3 D:=if below M.length d&&(decide (M'.take M.length=M)|| (M'.take M.length).all (Aj M.length))then .ok d (M'.take M.length)else .ok d M'
noncomputable def dB(ps n:Nat)(body:S3):F3:=λds M=>if ds.length=ps then match body (ds.map Ya++Yj (n-ps) Ye) M with
  | .nx _ M'=>mV M .non M'|.rt d M'=>mV M d M'|.exc x M'=>.exc x M'|_=>.bad
 else .bad
end
end L3
namespace L3
variable{it:lK}{i n:Nat}
theorem Zno{elt:E3}{R:D->D->Prop}{env0:Zu}:∀(ds:List D) (acc:List D) (env:Zu) (M:Store),(∀d,env.set i (Ya d)=env0.set i (Ya d)) ->
  (∀d∈ds,∀x,∃e,elt (env0.set i (Ya d)) (M.set n (.lst x))= .ok e (M.set n (.lst x))/\R d e)->(∀x,locked it (M.set n (.lst x))=true)->M[n]?=Ya (.lst acc)->acc.length+ds.length<=SZ ->
  ∃es,es.length=ds.length/\(∀(j:Nat) d e,ds[j]?=Ya d->es[j]?=Ya e->R d e)/\iM it (fO i) [] elt n ds env M= .ok (.ref n) (M.set n (.lst (acc++es))):=by
 intro ds
 induction ds with
 | nil=>
  intro acc env M _ _ hl hM _;have e:M.set n (.lst acc)=M:=by
   apply Di;intro j;by_cases hj:j=n
   .subst hj;rw[jR (Yn.mp hM).1,hM]
   .rw[Y5 (cQ hj)]
  have hl':=hl acc;rw[e]at hl';exact⟨[],rfl,λj d e h=>by simp at h,by simp only[ZlV,Qy,hl',if_true,iJ,e]⟩
 | cons d ds ih=>
  intro acc env M he hf hl hM hz;have hn:n<M.length:=(Yn.mp hM).1;have e:M.set n (.lst acc)=M:=by
   apply Di;intro j;by_cases hj:j=n
   .subst hj;rw[jR hn,hM]
   .rw[Y5 (cQ hj)]
  have hl':=hl acc;rw[e]at hl';obtain⟨v,hf',hR⟩:=hf d Yu acc;rw[e]at hf';have hz':acc.length<SZ:=by simp at hz ⊢;exact lB 1 0xf42405b01f42405ba1c0c01 T1 hz
  obtain⟨es,le,re,h⟩:=ih (acc++[v]) (env0.set i (Ya d)) (M.set n (.lst (acc++[v]))) (λd'=>by rw[Dl]) (λd' hd' x=>by rw[Dl];exact hf d' (Yv _ hd') x) (λx=>by rw[Dl];exact hl x) (by rw[jR hn]) (by simp at hz ⊢;exact lB 1 0xf42405b1a0cc0f42405ba1c0c01 T1 hz);refine⟨v::es,by simp[le],λj d' e' h1 h2=>?_,?_⟩
  .cases j with
   |zero=>simp at h1 h2;subst h1 h2;exact hR|succ j=>exact re j d' e' (by simpa using h1) (by simpa using h2)
  .simp only[Qy,hl',if_true,fO,he d,ZhZ,ZmZ,R3.AcW,hf',hM,hz'];rw[h,Dl];simp
variable{body:S3}
theorem ZmX{g:G3}{P:Zu->Store->Prop}:∀(ds:List D) (env:Zu) (M:Store),P env M->(∀env M,P env M->locked it M=true) ->
  (∀d∈ds,∀env M,P env M->∃cF e' M',g d env=Ya cF/\body cF M= .nx e' M'/\P e' M')->∃e' M',jz it g body ds env M= .nx e' M'/\P e' M':=by
 intro ds
 induction ds with
 |nil=>intro env M p hl _;exact⟨env,M,by simp only[ur,ut,hl env M p,if_true],p⟩|cons d ds ih=>intro env M p hl hs;obtain⟨cF,e',M',h1,h2,p'⟩:=hs d Yu env M p;obtain⟨e2,M2,h3,p2⟩:=ih e' M' p' hl λd' hd'=>hs d' (Yv _ hd');exact⟨e2,M2,by simp only[ur,ut,hl env M p,if_true,h1,h2,h3],p2⟩
theorem Zn2{g:G3}{P:Nat->Zu->Store->Prop}:∀(ds:List D) (j:Nat) (env:Zu) (M:Store),P j env M->(∀j env M,P j env M->locked it M=true) ->
  (∀(k:Nat) d,ds[k]?=Ya d->∀env M,P (j+k) env M->∃cF e' M',g d env=Ya cF/\body cF M= .nx e' M'/\P (j+k+1) e' M')->∃e' M',jz it g body ds env M= .nx e' M'/\P (j+ds.length) e' M':=by
 intro ds
 induction ds with
 |nil=>intro j env M p hl _;exact⟨env,M,by simp only[ur,ut,hl j env M p,if_true],p⟩|cons d ds ih=>
  intro j env M p hl hs;obtain⟨cF,e',M',h1,h2,p'⟩:=hs 0 d rfl env M p;obtain⟨e2,M2,h3,p2⟩:=ih (j+1) e' M' p' hl λk d' hd' env M p=>by have:=hs (k+1) d' (by simpa using hd') env M (by rw[show j+(k+1)=j+1+k by exact Y9 (lB 0 1790139547840 T1) (lB 0 0xa1c0c1a0cc0 T1)];exact p);rw[show j+(k+1)+1=j+1+k+1 by exact Y9 (lB 0 0xa1a0cccaa1c0cc0 T1) (lB 0 0xaa1c0cca1a0ccc0 T1)]at this;exact this
  exact⟨e2,M2,by simp only[ur,ut,hl j env M p,if_true,h1,h2,h3],by rw[Yo,show j+(ds.length+1)=j+1+ds.length by exact Y9 (lB 0 1790139547840 T1) (lB 0 0xa1c0c1a0cc0 T1)];exact p2⟩
variable{M M':Store}{env env':Zu}
theorem Zy{f g:S3}(h:f env M= .nx env' M'):Zo f g env M=g env' M':=by rw[Zo,h]
variable{d:D}
theorem qD{f g:S3}(h:f env M= .rt d M'):Zo f g env M= .rt d M':=by rw[Zo,h]
theorem iQ{c:E3}{f g:S3}(h:c env M= .ok (.bl true) M'):aJ c f g env M=f env M':=by rw[aJ,h]
theorem JQ{c:E3}{f g:S3}(h:c env M= .ok (.bl false) M'):aJ c f g env M=g env M':=by rw[aJ,h]
variable{f:E3}
theorem qF(h:f env M= .ok d M'):aK f env M= .rt d M':=by rw[aK,h]
theorem b_(h:f env M= .ok d M')(he:env.set i (Ya d)=env':=by first|(dsimp only[Vy,Vz]<;>exact rfl)|exact rfl):aD i f env M= .nx env' M':=by rw[aD,h];simp only[he]
theorem mW{c:E3}{f:S3}(h:c env M= .ok (.bl false) M'):aJ c f aU env M= .nx env M':=by rw[aJ,h];rfl
theorem xZ(h:f env M= .ok d M'):fG f env M= .nx env M':=by rw[fG,h]
theorem Zle{i:I3}{g:G3}{u:S3}(h:i env M= .ok it M'):v6 i g u env M=jz it g u it.items env M':=by rw[v6,h]
theorem ZnT{i:I3}{own:Nat}{g:G3}{ts:List E3}(h:i env M= .ok it M'):mU i own g ts f env M=iM it g ts f M'.length it.items (env++Yj own Ye) (M'++[.lst []]):=by rw[mU,h];rfl
variable{ds:List D}
theorem Qz{ps:Nat}(h:body env M= .rt d M')(hl:ds.length=ps:=by rfl)(he:ds.map Ya++Yj (n-ps) Ye=env:=by rfl):dB ps n body ds M=mV M d M':=by rw[dB,if_pos hl,he,h]
theorem ZrU{ps:Nat}(h:body env M= .nx env' M')(hl:ds.length=ps:=by rfl)(he:ds.map Ya++Yj (n-ps) Ye=env:=by rfl):dB ps n body ds M=mV M .non M':=by rw[dB,if_pos hl,he,h]
theorem Zoz{G:Store}(h:below M.length d=true):mV M d (M++G)= .ok d M:=by simp[mV,h]
theorem ZmC(h:below M.length d=true):mV M d M= .ok d M:=by simp[mV,h]
variable{α:Type}
theorem dN(M:List α)(x:α)(xs:List α):(M++x::xs)[M.length]?=Ya x:=by simp
theorem uw(M xs:List α)(k:Nat):(M++xs)[M.length+k]?=xs[k]?:=by rw[xu (q9 _ _)];congr 1;exact Y9 (lC 1 2199589555233 T1 (nQ (q9 _ _))) (lC 1 2267788938241 T1 (o_ _ _))
theorem QB(M xs:List α)(k:Nat)(o:α):(M++xs).set (M.length+k) o=M++xs.set k o:=by rw[List.set_append_right _ _ (q9 _ _)];congr 2;exact Y9 (lC 1 2199589555233 T1 (nQ (q9 _ _))) (lC 1 2267788938241 T1 (o_ _ _))
theorem Ak{M:List α}{o:α}(h:M[n]?=Ya o)(xs:List α):(M++xs)[n]?=Ya o:=by rw[Y6 (Yn.mp h).1,h]
theorem iw(xs:List α)(k:Nat):dM xs (k:Int)=xs[k]?:=by
 unfold dM jE;rw[if_pos (vH k)];by_cases h:k<xs.length
 .rw[if_pos (Io.2 h)];simp
 .rw[if_neg (by exactλz=>iN [_,_] [] 2 6667149772945 T1 z h)];simp at h ⊢;exact h
@[simp] theorem Ztk(xs:List α)(k:Nat):dM xs (k:Int)=xs[k]?:=iw xs k
@[simp] theorem Zut(xs:List α)(n:Nat):dM xs (no_index (DQ n:Int))=xs[(DQ n:Nat)]?:=iw xs n
@[simp] theorem Ztv(xs:List α):dM xs (-1)=xs.getLast?:=by
 unfold dM jE;rw[if_neg (by decide),List.getLast?_eq_getElem?];by_cases h:0<xs.length
 .rw[if_pos (by exact iN [_] [] 1 725993655825 T1 h)];simp only[Uw];congr 1;exact Y9 (iN [_,_,_] [] 2 0x200a2c10118a9c08a1 T1 (tY (iN [_] [] 1 595337940497 T1 h)) (o_ _ _)) (iN [_,_,_] [] 2 0x1200a2c211808a9c81 T1 (Dw _) (nQ (lA 1 10489361 T1 h)))
 .have:xs=[]:=by simpa using h
  subst this;rfl
theorem Ey(n k:Nat):jE n (k:Int)=if k<n then Ya k else Ye:=by
 unfold jE;rw[if_pos (vH k)];by_cases h:k<n
 .rw[if_pos (Io.2 h),if_pos h];simp
 .rw[if_neg (by exactλz=>iN [_,_] [] 2 6667149772945 T1 z h),if_neg h]
@[simp] theorem ZtS(n k:Nat):jE n (k:Int)=if k<n then Ya k else Ye:=Ey n k
@[simp] theorem Zvy(m n:Nat):jE m (no_index (DQ n:Int))=if(DQ n:Nat)<m then Ya (DQ n:Nat)else Ye:=Ey m n
theorem getD_last(xs:List α)(x:α):dM (xs++[x]) (-1)=Ya x:=by
 unfold dM jE;rw[if_neg (by decide),if_pos (by simp;exact iN [_] [] 0 10521768 T1)];have:(-1+((xs++[x]).length:Int)).toNat=xs.length:=by simp;exact Y9 (iN [_,_] [] 1 4514701222086817 T1 (tY (iN [_] [] 0 43097169128 T1))) (iN [_,_] [] 1 4505291991981185 T1 (Dw _))
 simp only[Uw,this];simp
inductive Row where
 |put (a:Nat) (n:Int)|add (a b c:Nat)|sub (a b c:Nat)|more (a b c:Nat)|get (a b:Nat)|set (a b:Nat)|jump (k:Nat)|when (a k:Nat)|tell (a:Nat)|halt
 deriving Inhabited
noncomputable def Row.ok(many:Nat):Row->Prop
 | .put a _=>a<8|.add a b c=>a<8/\b<8/\c<8|.sub a b c=>a<8/\b<8/\c<8|.more a b c=>a<8/\b<8/\c<8
 | .get a b=>a<8/\b<8|.set a b=>a<8/\b<8|.jump k=>k<many|.when a k=>a<8/\k<many
 | .tell a=>a<8|.halt=>True
noncomputable def Row.tells(bs:List Int):Row->Option Int
 | .tell a=>bs[a]?|_=>Ye
noncomputable def Row.qX:Row->Bool
 | .halt=>true|_=>false
variable{a:Nat}
@[simp] theorem Zts{n:Int}{bs:List Int}:(Row.put a n).tells bs=Ye:=rfl
@[simp] theorem Ztc{n:Int}:(Row.put a n).qX=false:=rfl
variable{b c:Nat}
@[simp] theorem Ztn{bs:List Int}:(Row.add a b c).tells bs=Ye:=rfl
@[simp] theorem ZsT:(Row.add a b c).qX=false:=rfl
@[simp] theorem Ztx{bs:List Int}:(Row.sub a b c).tells bs=Ye:=rfl
@[simp] theorem Zs5:(Row.sub a b c).qX=false:=rfl
@[simp] theorem Zrl{bs:List Int}:(Row.more a b c).tells bs=Ye:=rfl
@[simp] theorem ZqH:(Row.more a b c).qX=false:=rfl
@[simp] theorem Ztu{bs:List Int}:(Row.get a b).tells bs=Ye:=rfl
@[simp] theorem Zrv:(Row.get a b).qX=false:=rfl
@[simp] theorem Ztl{bs:List Int}:(Row.set a b).tells bs=Ye:=rfl
@[simp] theorem Zsz:(Row.set a b).qX=false:=rfl
@[simp] theorem Zsx{k:Nat}{bs:List Int}:(Row.jump k).tells bs=Ye:=rfl
@[simp] theorem ZqY{k:Nat}:(Row.jump k).qX=false:=rfl
@[simp] theorem Zss{k:Nat}{bs:List Int}:(Row.when a k).tells bs=Ye:=rfl
@[simp] theorem ZqM{k:Nat}:(Row.when a k).qX=false:=rfl
@[simp] theorem Zs2{bs:List Int}:(Row.tell a).tells bs=bs[a]?:=rfl
@[simp] theorem Zq3:(Row.tell a).qX=false:=rfl
@[simp] theorem Zrx{bs:List Int}:(Row.halt).tells bs=Ye:=rfl
@[simp] theorem ZqO :(Row.halt).qX=true:=rfl
theorem Zj7(n:Nat)(i:Int):cM n (.int i)=true:=by cases n<;>rfl
mutual
theorem ZmU:∀(n:Nat) (d:D),cM n d=true->fD d d=true
 |_,.non,_=>rfl|_,.bl b,_=>beq_self_eq_true b|_,.int b,_=>beq_self_eq_true b|_,.str b,_=>beq_self_eq_true b
 |0,.tup _,h=>ft h|n+1,.tup ds,h=>QC n ds (fB.mp h)|n,.aH _,h=>by cases n<;>exact ft h|n,.ref _,h=>by cases n<;>exact ft h
theorem QC:∀(n:Nat) (ds:List D),(∀d∈ds,cM n d=true)->gU ds ds=true
 |_,[],_=>rfl|n,d::ds,h=>by simp only[ZrA,Qn,gQ];exact⟨ZmU n d (h d Yu),QC n ds λx hx=>h x (Yv _ hx)⟩
end
theorem ZhN(h:ds.all (cM DEEP)=true):gU ds ds=true:=QC DEEP ds (by simpa using h)
def Rt(o:O3)(d:D):Prop:=∃M',o= .rt d M'
theorem Rt.set{g:S3}{r:D}(h:f env M= .ok d M')(k:Rt (g env' M') r)(he:env.set i (Ya d)=env':=by first|(dsimp only[Vy,Vz]<;>exact rfl)|exact rfl):Rt (Zo (aD i f) g env M) r:=by rw[Rt,Zy (b_ h he)];exact k
theorem Rt.skip{c:E3}{u g:S3}{r:D}(h:c env M= .ok (.bl false) M')(k:Rt (g env M') r):Rt (Zo (aJ c u aU) g env M) r:=by rw[Rt,Zy (mW h)];exact k
theorem Rt.loop{i:I3}{t:G3}{u g:S3}{M M' M1:Store}{r:D}(h:i env M= .ok it M1)(hl:jz it t u it.items env M1= .nx env' M')(k:Rt (g env' M') r):Rt (Zo (v6 i t u) g env M) r:=by rw[Rt,Zy ((Zle h).trans hl)];exact k
theorem Rt.step{f g:S3}{r:D}(h:f env M= .nx env' M')(k:Rt (g env' M') r):Rt (Zo f g env M) r:=by rw[Rt,Zy h];exact k
theorem Rt.ret(h:f env M= .ok d M'):Rt (aK f env M) d:=⟨M',qF h⟩
theorem Rt.law{ps:Nat}{b:Bool}(h:Rt (body env []) (.bl b))(hl:ds.length=ps:=by rfl)(he:ds.map Ya++Yj (n-ps) Ye=env:=by rfl):∃M',dB ps n body ds []= .ok (.bl b) M':=by obtain⟨M',h⟩:=h;exact⟨_,(Qz h hl he).trans (by rw[mV,if_pos (by simp[below])])⟩
theorem Rt.pure{ps:Nat}{G:Store}(h:body env M= .rt d (M++G))(hd:below M.length d=true)(hl:ds.length=ps:=by rfl)(he:ds.map Ya++Yj (n-ps) Ye=env:=by rfl):dB ps n body ds M= .ok d M:=(Qz h hl he).trans (Zoz hd)
theorem ZjR{β:Type}(f:α->β)(xs:List α)(lo hi:Option Int):cutD (xs.map f) lo hi=(cutD xs lo hi).map f:=by simp[cutD]
theorem ZpM{lo:Int}{j:Nat}(h:(j8 lo n)[j]?=Ya d):d= .int (lo+j)/\j<n:=by
 unfold j8 at h;rw[gO]at h;cases q:(kW n)[j]? with
 |none=>rw[q]at h;cases h|some k=>rw[q]at h;obtain⟨hi,e⟩:=Yn.mp q;rw[VB]at e;subst e;simp at h hi;exact⟨h.symm,hi⟩
theorem Zjl{j:Nat}(h:(j8 0 n)[j]?=Ya d):d= .int (j:Int)/\j<n:=by obtain⟨e,l⟩:=ZpM h;exact⟨by rw[e,Dz],l⟩
theorem Zps(lo:Int)(n:Nat):(j8 lo n).length=n:=by simp[j8]
variable{xs:List D}
theorem ZpB{m:Nat}(h1:M[n]?=Ya (.lst xs))(h2:M[m]?=Ya (.lst xs))(hp:xs.all (cM DEEP)=true):bh (.ref n) (.ref m) M= .ok (.bl true) M:=by simp only[bh,jY,jZ,j4,j5,j6,h1,h2,hp,vG,if_true,ZhN hp]
theorem Zl4{m:Nat}(h1:M[n]?=Ya (.lst xs))(h2:M[m]?=Ya (.lst xs))(hp:xs.all (cM DEEP)=true):dg (.ref n) (.ref m) M= .ok (.bl false) M:=by simp only[dg,jY,jZ,j4,j5,j6,h1,h2,hp,vG,if_true,ZhN hp,Wg]
variable{g:E3}
theorem Zg{op:D->D->Store->R3 D}{M M1 M2 M3:Store}{a b:D}(h1:f env M= .ok a M1)(h2:g env M1= .ok b M2)(h3:op a b M2= .ok d M3):e2 op f g env M= .ok d M3:=by simp only[e2,h1,h2,h3,R3.bind]
theorem x_{F:F3}{M M1 M2:Store}{a:D}(h1:f env M= .ok a M1)(h2:F [a] M1= .ok d M2):aR F (Za f Zf) env M= .ok d M2:=by simp only[aR,Za,Zf,h1,h2,R3.bind]
theorem j9{F:F3}{M M1 M2 M3:Store}{a b:D}(h1:f env M= .ok a M1)(h2:g env M1= .ok b M2)(h3:F [a,b] M2= .ok d M3):aR F (Za f (Za g Zf)) env M= .ok d M3:=by simp only[aR,Za,Zf,h1,h2,h3,R3.bind]
@[simp] theorem ZvP(a b:rK):(a==b)=decide (a=b):=by cases a<;>cases b<;>rfl
theorem dh{b:List D->Store->R3 D}{M M1 M2:Store}{a:D}(h1:f env M= .ok a M1)(h2:b [a] M1= .ok d M2):Zx b (Za f Zf) env M= .ok d M2:=by simp only[Zx,Za,Zf,h1,h2,R3.bind]
theorem eZ{op:D->Store->R3 D}{M M1 M2:Store}{a:D}(h1:f env M= .ok a M1)(h2:op a M1= .ok d M2):e1 op f env M= .ok d M2:=by simp only[e1,h1,h2,R3.bind]
theorem Zn{g:cN}{M M1 M2:Store}(h1:f env M= .ok d M1)(h2:g env M1= .ok ds M2):Za f g env M= .ok (d::ds) M2:=by simp only[Za,h1,h2,R3.bind]
theorem QD{g:cN}(h:g env M= .ok ds M')(hl:decide (ds.length<=100)=true):n6 g env M= .ok (.tup ds) M':=by have:=of_decide_eq_true hl;simp only[n6,h,R3.bind];rw[if_pos (Ym this (by decide))]
theorem ux(h:M[n]?=Ya (.lst xs)):a_ [.ref n] M= .ok (.int (xs.length:Int)) M:=by simp only[z_,Aa,Ab,rP,h]
theorem ZlN(h:M[n]?=Ya (.lst xs)):uq [.ref n] M= .ok (.tup xs) M:=by simp only[ZhM,ZhF,Ac,h]
theorem ji{i:Int}(h:M[n]?=Ya (.lst xs))(hd:dM xs i=Ya d):aM (.ref n) (.int i) M= .ok d M:=by simp only[JH,JK,JL,JM,h,hd]
theorem Zlq{i:Int}(hd:dM xs i=Ya d):aM (.tup xs) (.int i) M= .ok d M:=by simp only[JH,JK,JL,JM,hd]
theorem Ez{a b:Int}(h:a=b):bh (.int a) (.int b) M= .ok (.bl true) M:=by simp only[bh,jY,jZ,j4,j5,j6,decide_eq_true h]
theorem EY{a b:Int}(h:¬a=b):bh (.int a) (.int b) M= .ok (.bl false) M:=by simp only[bh,jY,jZ,j4,j5,j6,decide_eq_false h]
theorem cY{i j:Int}(h:0<j):aQ (.int i) (.int j) M= .ok (.int (i % j)) M:=by simp only[Zji,if_pos h]
theorem qG{M M1:Store}(h1:f env M= .ok (.bl false) M1):jh f g env M=g env M1:=by simp only[jh,h1,R3.bind]
theorem ZqP{M M1:Store}(h1:f env M= .ok (.bl true) M1):jh f g env M= .ok (.bl true) M1:=by simp only[jh,h1,R3.bind]
theorem jj{M M1:Store}(h1:f env M= .ok (.bl true) M1):cT f g env M=g env M1:=by simp only[cT,h1,R3.bind]
theorem mX{M M1:Store}(h1:f env M= .ok (.bl false) M1):cT f g env M= .ok (.bl false) M1:=by simp only[cT,h1,R3.bind]
theorem ZqW{c:E3}{M M1:Store}(h1:c env M= .ok (.bl true) M1):um c f g env M=f env M1:=by simp only[um,h1,R3.bind]
theorem ZqX{c:E3}{M M1:Store}(h1:c env M= .ok (.bl false) M1):um c f g env M=g env M1:=by simp only[um,h1,R3.bind]
theorem Zpd{enc:α->D}{h:α->D}{own:Nat}{it:I3}{elt:E3}{M M1:Store}{lock:Option Nat}{as:List α}(hi:it env M= .ok ⟨as.map enc,lock⟩ M1)(GF:∀n,lock=Ya n->M1[n]?=Ya (.lst (as.map enc)))(he:∀a∈as,∀M,elt ((env++Yj own Ye).set i (Ya (enc a))) M= .ok (h a) M)(hz:as.length<=100000):mU it own (fO i) [] elt env M= .ok (.ref M1.length) (M1++[.lst (as.map h)]):=by
 rw [ZnT hi];obtain⟨es,le,re,hh⟩:=Zno (it:=⟨as.map enc,lock⟩) (i:=i) (n:=M1.length) (elt:=elt) (R:=λd e=>∀a∈as,d=enc a->e=h a) (env0:=env++Yj own Ye) (as.map enc) [] (env++Yj own Ye) (M1++[.lst []]) (λ_=>rfl)
  (λd hd x=>by obtain⟨a,ha,rfl⟩:=jD.mp hd;refine⟨h a,he a ha _,λb hb e=>?_⟩;have h1:=he a ha [];have h2:=he b hb [];rw[e,h2]at h1;injection h1 with h1 _;exact h1.symm)
  (λx=>by
   cases lock with
   |none=>rfl|some n=>have hn:=GF n rfl;have hlt:=(Yn.mp hn).1;simp only[locked,decide_eq_true_eq];rw[Y5 (by exactλz=>lB 2 25787699233 T1 z hlt),Y6 hlt,hn]) (by simp) (by simp;exact lA 1 0xf42405b00186a05b001 T1 hz)
 rw [show(⟨as.map enc,lock⟩:lK).items=as.map enc from rfl,hh];have:es=as.map h:=by
  apply Di;intro j;rw[gO];cases ha:as[j]? with
  |none=>
   have:as.length<=j:=by simpa using ha
   simp[le];exact this
  | some a=>
   have hj:j<es.length:=by have:=(Yn.mp ha).1;simpa[le]using this
   have h2:=re j (enc a) es[j] (by simp[ha]) (by simp[hj]) a (q8 ha) rfl;rw[Y2 hj,h2];rfl
 rw[this];simp
def keysOk(t:List (Int×Int)):Prop:=(t.map (·.1)).Nodup
noncomputable def Zu4:List (Int×Int)->Int->Int
 |[],_=>0|(k,v)::r,n=>if k=n then v else Zu4 r n
def QF(cs:List (Int×Int)):Prop:=cs.Pairwise λa b=>a.1<b.1
theorem QF.keys{cs:List (Int×Int)}(h:QF cs):keysOk cs:=by unfold keysOk QF at *;rw[HN,List.pairwise_map];exact h.imp λh=>(λz=>iN [] [_,_] 2 26047746225 T1 z h)
noncomputable def ZpA(cs:List (Int×Int))(n v:Int):List (Int×Int):=cs.filter (λc=>decide (c.1<n))++(if v≠0 then[(n,v)]else[])++cs.filter (λc=>decide (n<c.1))
noncomputable def Row.AdR(bs:List Int)(cs:List (Int×Int)):Row->List Int
 | .put a n=>bs.set a n|.add a b c=>bs.set a (bs.getD b 0+bs.getD c 0)|.sub a b c=>bs.set a (bs.getD b 0-bs.getD c 0)|.more a b c=>bs.set a (if bs.getD c 0<bs.getD b 0 then 1 else 0)
 | .get a b=>bs.set a (Zu4 cs (bs.getD b 0))|_=>bs
noncomputable def Row.cells(bs:List Int)(cs:List (Int×Int)):Row->List (Int×Int)
 | .set a b=>ZpA cs (bs.getD a 0) (bs.getD b 0)|_=>cs
noncomputable def Zd(i:Int):List Nat:=(PySem.Str.ofString (rD i)).cps.toList
noncomputable section
local instance (priority:=100000) Ad3 (p:Prop):Decidable p:=Ys p
noncomputable def dR(ds:List D)(M:Store):R3 D:=match ds with
 |[.int i]=>if i.natAbs.log2<1920 then .ok (.str (Zd i)) M else .bad|[.str x]=>.ok (.str x) M|_=>.bad
@[simp] theorem Zlp:∀i,dR ([.int i]) M=(if i.natAbs.log2<1920 then .ok (.str (Zd i)) M else .bad):=λ_=>rfl
@[simp] theorem Zl5:∀x,dR ([.str x]) M= .ok (.str x) M:=λ_=>rfl
noncomputable def j_:List D->Option (List (List Nat))
 |[]=>Ya []|.str x::ds=>(j_ ds).map (x:: ·)|_=>Ye
noncomputable def glue(sep:List Nat):List (List Nat)->List Nat
 |[]=>[]|[x]=>x|x::y::xs=>x++sep++glue sep (y::xs)
noncomputable def lU(sep:List Nat)(ts:List (List Nat)):Nat:=(ts.map λt=>t.length+sep.length).sum
noncomputable def dZ(o:D)(ds:List D)(M:Store):R3 D:=match o,ds with
 | .str sep,[.ref n]=>match M[n]? with
  |some (.lst x)=>match j_ x with
   |some ts=>if lU sep ts<=SZ then .ok (.str (glue sep ts)) M else .bad|none=>.bad
  |_=>.bad
 |_,_=>.bad
@[simp] theorem Zjt:∀sep n,dZ (.str sep) ([.ref n]) M=(match M[n]? with
  |some (.lst x)=>match j_ x with
   |some ts=>if lU sep ts<=SZ then .ok (.str (glue sep ts)) M else .bad|none=>.bad
  |_=>.bad):=λ_ _=>rfl
noncomputable def lV(x y:List Nat):List (List Nat):=(Xo ⟨x.toArray⟩ ⟨y.toArray⟩).map λt=>t.cps.toList
noncomputable def mY(o:D)(ds:List D)(M:Store):R3 D:=match o,ds with
 | .str x,[.str y]=>if 0<y.length/\x.length+2<=SZ then alloc (.lst ((lV x y).map D.str)) M else .bad|_,_=>.bad
@[simp] theorem Al:∀x y,mY (.str x) ([.str y]) M=(if 0<y.length/\x.length+2<=SZ then alloc (.lst ((lV x y).map D.str)) M else .bad):=λ_ _=>rfl
noncomputable def lW(ds:List D)(M:Store):R3 D:=match ds with
 |[.str x]=>match Hf ⟨x.toArray⟩with
  |some n=>if x.length<=640 then .ok (.int n) M else .bad|none=>.bad
 |ds=>Ew ds M
@[simp] theorem JR:∀x,lW ([.str x]) M=(match Hf ⟨x.toArray⟩with
  |some n=>if x.length<=640 then .ok (.int n) M else .bad|none=>.bad):=λ_=>rfl
@[simp] theorem JS:∀i,lW [.int i] M= .ok (.int i) M:=λ_=>rfl
@[simp] theorem Zuv:∀b,lW [.bl b] M=Ew [.bl b] M:=λ_=>rfl
end
noncomputable section
structure JT where
 items:List D
 lk:List (Nat×List D)
noncomputable def gm(lk:List (Nat×List D))(M:Store):Bool:=lk.all λq=>decide (M[q.1]?=Ya (.lst q.2))
noncomputable def iy(lk:List (Nat×List D))(g:G3)(body:S3):List D->Zu->Store->O3
 |[],env,M=>if gm lk M then .nx env M else .bad|d::ds,env,M=>if gm lk M then match g d env with
  |none=>.bad|some cF=>match body cF M with
   | .nx e M'=>iy lk g body ds e M'|.ct e M'=>iy lk g body ds e M'|.bk e M'=>.nx e M'|o=>o
  else .bad
theorem v8{lk:List (Nat×List D)}{g:G3}:iy lk g body [] env M=if gm lk M then .nx env M else .bad:=rfl
theorem pM{lk:List (Nat×List D)}{g:G3}:iy lk g body (d::ds) env M=if gm lk M then match g d env with
  |none=>.bad|some cF=>match body cF M with
   | .nx e M'=>iy lk g body ds e M'|.ct e M'=>iy lk g body ds e M'|.bk e M'=>.nx e M'|o=>o
  else .bad:=rfl
noncomputable abbrev rR:=Zu->Store->R3 JT
noncomputable def yc(i:rR)(g:G3)(body:S3):S3:=λenv M=>match i env M with
 | .ok it M1=>iy it.lk g body it.items env M1|.exc x M1=>.exc x M1|.bad=>.bad
noncomputable def lX:Nat->List D->List D
 |_,[]=>[]|k,d::ds=>.tup [.int k,d]::lX (k+1) ds
noncomputable def ZtP(a b:D)(M:Store):R3 D:=match a,b with
 | .tup [.int i,.int j],.tup [.int k,.int l]=>.ok (.bl (decide (i<k)|| (decide (i=k)&&decide (j<=l)))) M|_,_=>.bad
@[simp] theorem ZtB:∀i j k l,ZtP (.tup [.int i,.int j]) (.tup [.int k,.int l]) M= .ok (.bl (decide (i<k)|| (decide (i=k)&&decide (j<=l)))) M:=λ_ _ _ _=>rfl
noncomputable def qH(ds:List D)(M:Store):R3 D:=match ds with
 |[.int i,.int j]=>.ok (.int (if j>i then j else i)) M|_=>.bad
@[simp] theorem ZjM:∀i j,qH ([.int i,.int j]) M= .ok (.int (if j>i then j else i)) M:=λ_ _=>rfl
noncomputable def qI(ds:List D)(M:Store):R3 D:=match ds with
 |[.int i,.int j]=>.ok (.int (if j<i then j else i)) M|_=>.bad
@[simp] theorem ZoB:∀i j,qI ([.int i,.int j]) M= .ok (.int (if j<i then j else i)) M:=λ_ _=>rfl
theorem QG:∀(k:Nat) (ds:List D) (i:Nat),(lX k ds)[i]?=(ds[i]?).map λd=>.tup [.int ((k+i:Nat):Int),d]
 |_,[],_=>by simp[lX]|k,d::ds,0=>by simp[lX]|k,d::ds,i+1=>by simp only[lX,qj,QG (k+1) ds i];rw[show k+1+i=k+(i+1)by exact Y9 (lB 0 0xa1c0c1a0cc0 T1) (lB 0 1790139547840 T1)]
theorem QH:∀(k:Nat) (ds:List D),(lX k ds).length=ds.length
 |_,[]=>rfl|k,d::ds=>by simp[lX,QH (k+1) ds]
theorem QJ{lk:List (Nat×List D)}{g:G3}{body:S3}{P:Nat->Zu->Store->Prop}:∀(ds:List D) (j:Nat) (env:Zu) (M:Store),P j env M->(∀j env M,P j env M->gm lk M=true) ->
  (∀(i:Nat) d env M,ds[i]?=Ya d->P (j+i) env M->∃cF,g d env=Ya cF/\((∃e' M',body cF M= .nx e' M'/\P (j+i+1) e' M')\/∃e' M',body cF M= .ct e' M'/\P (j+i+1) e' M')) ->
  ∃e' M',iy lk g body ds env M= .nx e' M'/\P (j+ds.length) e' M'
 |[],j,env,M,p,hl,_=>⟨env,M,by simp[v8,pM,hl _ _ _ p],by simpa using p⟩|d::ds,j,env,M,p,hl,hs=>by
  obtain⟨cF,hg,hb⟩:=hs 0 d env M (by simp) (by simpa using p);have go:∀e' M',P (j+1) e' M'->∃e'' M'',iy lk g body ds e' M'= .nx e'' M''/\P (j+(d::ds).length) e'' M'':=λe' M' p'=>by
   obtain⟨e'',M'',h,p''⟩:=QJ ds (j+1) e' M' p' hl λi d env M hd p=>by have:=hs (i+1) d env M (by simpa using hd) (by rw[show j+(i+1)=j+1+i by exact Y9 (lB 0 1790139547840 T1) (lB 0 0xa1c0c1a0cc0 T1)];exact p);rw[show j+(i+1)+1=j+1+i+1 by exact Y9 (lB 0 0xa1a0cccaa1c0cc0 T1) (lB 0 0xaa1c0cca1a0ccc0 T1)]at this;exact this
   exact⟨e'',M'',h,by rw[show j+(d::ds).length=j+1+ds.length by simp;exact Y9 (lB 0 1790139547840 T1) (lB 0 0xa1c0c1a0cc0 T1)];exact p''⟩
  simp only[Nat.add_zero]at hb;rcases hb with⟨e',M',hb,p'⟩|⟨e',M',hb,p'⟩
  .obtain⟨e'',M'',h,p''⟩:=go e' M' p';exact⟨e'',M'',by simp[v8,pM,hl _ _ _ p,hg,hb,h],p''⟩
  .obtain⟨e'',M'',h,p''⟩:=go e' M' p';exact⟨e'',M'',by simp[v8,pM,hl _ _ _ p,hg,hb,h],p''⟩
end
noncomputable section
noncomputable def gn:List D->List D->List D
 |a::x,b::y=>.tup [a,b]::gn x y|_,_=>[]
@[simp] noncomputable def Zxb(f g:E3):rR:=λenv M=>(f env M).bind λa M1=>(g env M1).bind λb M2=>match a,b with
 | .ref n,.ref m=>match M2[n]?,M2[m]? with
  |some (.lst x),Ya (.lst y)=>.ok ⟨gn x y,[(n,x),(m,y)]⟩ M2|_,_=>.bad
 |_,_=>.bad
theorem QK:∀(x y:List D) (i:Nat),(gn x y)[i]?=(match x[i]?,y[i]? with|some a,Ya b=>Ya (D.tup [a,b])|_,_=>Ye)
 |[],y,i=>by cases y<;>simp[gn]|a::x,[],i=>by simp[gn]|a::x,b::y,0=>by simp[gn]|a::x,b::y,i+1=>by simp only[gn,qj,QK x y i]
theorem QL:∀(x y:List D),(gn x y).length=dm x.length y.length
 |[],y=>by cases y<;>simp[gn]|a::x,[]=>by simp[gn]|a::x,b::y=>by simp only[gn,Yo,QL x y];omega
end
noncomputable section
end
noncomputable def QM(f:List Nat)(d:D):List (List Nat×D)->List (List Nat×D)
 |[]=>[(f,d)]|(g,x)::r=>if g=f then(g,d)::r else(g,x)::QM f d r
noncomputable section
@[simp] noncomputable def mZ(f:E3):E3:=λenv M=>match f env M with
 | .exc _ _=>.bad|r=>r
@[simp] noncomputable def uy(f:cN):cN:=λenv M=>match f env M with
 | .exc _ _=>.bad|r=>r
noncomputable def fH(f:S3):S3:=λenv M=>match f env M with
 | .exc _ _=>.bad|o=>o
noncomputable def uz(c:List Nat)(g:cN):S3:=λenv M=>match g env M with
 | .ok [_] M1=>.exc ⟨c,.ref M1.length⟩ (M1++[.ins (0::c) []])|_=>.bad
noncomputable def yd(cs:List (List Nat))(j:Nat)(b h:S3):S3:=λenv M=>match b env M with
 | .exc x M'=>if cs.contains x.cls then(match h (env.set j (Ya x.arg)) M' with
  | .nx e' M2=>.nx (e'.set j Ye) M2|_=>.bad)else .bad
 |o=>o
noncomputable def iR(yes no:List (List Nat))(d:D)(M:Store):R3 D:=match d with
 | .non=>.ok (.bl false) M|.ref n=>match M[n]? with
  |some (.ins (0::c) _)=>if yes.contains c then .ok (.bl true) M else if no.contains c then .ok (.bl false) M else .bad|_=>.bad
 |_=>.bad
@[simp] theorem Ztb{yes no:List (List Nat)}:iR yes no .non M= .ok (.bl false) M:=rfl
@[simp] theorem QQ{yes no:List (List Nat)}:∀n,iR yes no (.ref n) M=(match M[n]? with
  |some (.ins (0::c) _)=>if yes.contains c then .ok (.bl true) M else if no.contains c then .ok (.bl false) M else .bad|_=>.bad):=λ_=>rfl
end
noncomputable section
noncomputable def Am(i:I3)(g:G3)(body:S3):S3:=λenv M=>match i env M with
 | .ok it M1=>jz it g body it.items env M1|_=>.bad
noncomputable def qJ(i:rR)(g:G3)(body:S3):S3:=λenv M=>match i env M with
 | .ok it M1=>iy it.lk g body it.items env M1|_=>.bad
end
noncomputable section
noncomputable abbrev qK:=List (List Nat×List (List Nat))
noncomputable def tabAt(x:List Nat):qK->Option (List (List Nat))
 |[]=>Ye|(k,v)::r=>if x=k then Ya v else tabAt x r
noncomputable def v9(t:qK)(d:D)(M:Store):R3 D:=match d with
 | .str x=>match tabAt x t with
  |some ds=>.ok (.tup (ds.map D.str)) M|none=>.ok .non M
 |_=>.bad
noncomputable def uD(t:qK)(d:D)(M:Store):R3 D:=match d with
 | .str x=>match tabAt x t with
  |some ds=>.ok (.tup (ds.map D.str)) M|none=>.bad
 |_=>.bad
noncomputable def Ao(f:E3):rR:=λenv M=>(f env M).bind λa M1=>match a with
 | .ref n=>match M1[n]? with
  |some (.lst ds)=>.ok ⟨lX 1 ds,[(n,ds)]⟩ M1|_=>.bad
 |_=>.bad
noncomputable def uE(M:Store):D->Option (List D×List (Nat×List D))
 | .tup x=>Ya (x,[])|.ref n=>match M[n]? with
  |some (.lst x)=>Ya (x,[(n,x)])|_=>Ye
 |_=>Ye
noncomputable def pN(f g:E3):rR:=λenv M=>(f env M).bind λa M1=>(g env M1).bind λb M2=>match uE M2 a,uE M2 b with
 |some (x,l),Ya (y,k)=>.ok ⟨gn x y,l++k⟩ M2|_,_=>.bad
end
noncomputable section
end
noncomputable section
end
noncomputable section
local instance (priority:=100000) Ad4 (p:Prop):Decidable p:=Ys p
end
open PySem PySem.Spec PyProof.Rows L2
noncomputable abbrev St:=L2.St
theorem lY:SZ<=bj:=by rw[mK];decide
def pO(K:Yb)(H:Hp)(a:Yq)(xs:List V):Prop:=
 (∃o,H a=Ya (.bJ o (.lst xs)))\/
  ∃(o:aB) (its:Array Yd) (n:Nat),K.lookup a=Ya o/\o.cls= .type "list" /\o.dict=Ye/\o.data= .seq its n/\its.size<=bj/\Vals xs its.toList
variable{H:Hp}{K:Yb}
theorem pO.sq{a:Yq}{xs:List V}(h:pO K H a xs):bQ K H a xs:=by
 rcases h with⟨o,h⟩|h
 .exact .inl (.inr ⟨o,h⟩)
 .exact .inr h
mutual
noncomputable def Rep(K:Yb)(H:Hp)(ι:List Yq):D->V->Prop
 | .non,v=>v= .non|.bl b,v=>v= .bl b|.int i,v=>v= .int i|.str x,v=>v= .str ⟨x.toArray⟩
 | .tup ds,v=>∃a vs,v= .ref a/\cJ K H a vs/\Zt K H ι ds vs|.aH ds,v=>∃a vs,v= .ref a/\pO K H a vs/\Zt K H ι ds vs|.ref n,v=>∃a,ι[n]?=Ya a/\v= .ref a
noncomputable def Zt(K:Yb)(H:Hp)(ι:List Yq):List D->List V->Prop
 |[],vs=>vs=[]|d::ds,vs=>∃v ws,vs=v::ws/\Rep K H ι d v/\Zt K H ι ds ws
end
structure Ext(K:Yb)(H:Hp)(ι:List Yq)(H':Hp)(ι':List Yq):Prop where
 tup:∀a xs,cJ K H a xs->cJ K H' a xs
 aH:∀a xs,pO K H a xs->pO K H' a xs
 pre:∀(n:Nat) (a:Yq),ι[n]?=Ya a->ι'[n]?=Ya a
 bJ:∀a o u,H a=Ya (.bJ o u)->H' a=Ya (.bJ o u)
variable{vs:List V}{v:V}
section
variable {K:Yb} {H H' H1 H2:Hp} {ι ι' ι1 ι2:List Yq}
theorem Ext.refl:Ext K H ι H ι:=⟨λ_ _ h=>h,λ_ _ h=>h,λ_ _ h=>h,λ_ _ _ h=>h⟩
theorem Ext.trans(a:Ext K H ι H1 ι1)(b:Ext K H1 ι1 H2 ι2):Ext K H ι H2 ι2:=⟨λx xs h=>b.tup x xs (a.tup x xs h),λx xs h=>b.aH x xs (a.aH x xs h),λn x h=>b.pre n x (a.pre n x h),λx o u h=>b.bJ x o u (a.bJ x o u h)⟩
mutual
theorem Rep.mono(e:Ext K H ι H' ι'):∀{d:D} {v:V},Rep K H ι d v->Rep K H' ι' d v
 | .non,_,h=>h|.bl _,_,h=>h|.int _,_,h=>h|.str _,_,h=>h
 | .tup ds,_,h=>by obtain⟨a,vs,rfl,s,r⟩:=h;exact⟨a,vs,rfl,e.tup _ _ s,Zt.mono e (ds:=ds) r⟩|.aH ds,_,h=>by obtain⟨a,vs,rfl,s,r⟩:=h;exact⟨a,vs,rfl,e.aH _ _ s,Zt.mono e (ds:=ds) r⟩|.ref n,_,h=>by obtain⟨a,s,rfl⟩:=h;exact⟨a,e.pre _ _ s,rfl⟩
theorem Zt.mono(e:Ext K H ι H' ι'):∀{ds:List D} {vs:List V},Zt K H ι ds vs->Zt K H' ι' ds vs
 |[],_,h=>h|d::ds,_,h=>by obtain⟨v,ws,rfl,r,q⟩:=h;exact⟨v,ws,rfl,Rep.mono e (d:=d) r,Zt.mono e (ds:=ds) q⟩
end
mutual
theorem Rep.keep(ht:∀a xs,cJ K H a xs->cJ K H' a xs)(hs:∀a xs,pO K H a xs->pO K H' a xs):∀{d:D} {v:V},Rep K H ι d v->Rep K H' ι d v
 | .non,_,h=>h|.bl _,_,h=>h|.int _,_,h=>h|.str _,_,h=>h
 | .tup ds,_,h=>by obtain⟨a,vs,rfl,s,r⟩:=h;exact⟨a,vs,rfl,ht _ _ s,Zt.keep ht hs (ds:=ds) r⟩|.aH ds,_,h=>by obtain⟨a,vs,rfl,s,r⟩:=h;exact⟨a,vs,rfl,hs _ _ s,Zt.keep ht hs (ds:=ds) r⟩|.ref n,_,h=>h
theorem Zt.keep(ht:∀a xs,cJ K H a xs->cJ K H' a xs)(hs:∀a xs,pO K H a xs->pO K H' a xs):∀{ds:List D} {vs:List V},Zt K H ι ds vs->Zt K H' ι ds vs
 |[],_,h=>h|d::ds,_,h=>by obtain⟨v,ws,rfl,r,q⟩:=h;exact⟨v,ws,rfl,Rep.keep ht hs (d:=d) r,Zt.keep ht hs (ds:=ds) q⟩
end
theorem Zt.nil:Zt K H ι [] []:=rfl
theorem Zt.cons{d:D}{ds:List D}{v:V}{vs:List V}(h:Rep K H ι d v)(t:Zt K H ι ds vs):Zt K H ι (d::ds) (v::vs):=⟨v,vs,rfl,h,t⟩
theorem Zt.nil_inv(h:Zt K H ι [] vs):vs=[]:=h
theorem Zt.cons_inv(h:Zt K H ι (d::ds) vs):∃v ws,vs=v::ws/\Rep K H ι d v/\Zt K H ι ds ws:=h
theorem Zt.length:∀{ds:List D} {vs:List V},Zt K H ι ds vs->vs.length=ds.length
 |[],_,h=>by rw[h.nil_inv];rfl|d::ds,_,h=>by obtain⟨v,ws,rfl,_,q⟩:=h.cons_inv;exact congrArg Nat.succ q.length
theorem Zt.append:∀{ds es:List D} {vs ws:List V},Zt K H ι ds vs->Zt K H ι es ws->Zt K H ι (ds++es) (vs++ws)
 |[],_,_,_,h,q=>by rw[h.nil_inv];exact q|d::ds,_,_,_,h,q=>by obtain⟨v,us,rfl,r,t⟩:=h.cons_inv;exact Zt.cons r (t.append q)
theorem Zt.drop:∀{ds:List D} {vs:List V} (n:Nat),Zt K H ι ds vs->Zt K H ι (ds.drop n) (vs.drop n)
 |_,_,0,h=>h|[],_,n+1,h=>by rw[h.nil_inv];exact Zt.nil|d::ds,_,n+1,h=>by obtain⟨v,us,rfl,r,t⟩:=h.cons_inv;exact t.drop n
theorem Zt.take:∀{ds:List D} {vs:List V} (n:Nat),Zt K H ι ds vs->Zt K H ι (ds.take n) (vs.take n)
 |_,_,0,h=>Zt.nil|[],_,n+1,h=>by rw[h.nil_inv];exact Zt.nil|d::ds,_,n+1,h=>by obtain⟨v,us,rfl,r,t⟩:=h.cons_inv;exact Zt.cons r (t.take n)
theorem Zt.get:∀{ds:List D} {vs:List V} {i:Nat} {d:D},Zt K H ι ds vs->ds[i]?=Ya d->∃v,vs[i]?=Ya v/\Rep K H ι d v
 |[],_,_,_,_,e=>by simp at e|d::ds,_,0,_,h,e=>by obtain⟨v,us,rfl,r,t⟩:=h.cons_inv;simp at e;subst e;exact⟨v,rfl,r⟩
 |d::ds,_,i+1,_,h,e=>by obtain⟨v,us,rfl,r,t⟩:=h.cons_inv;obtain⟨w,q,z⟩:=t.get (i:=i) (by simpa using e);exact⟨w,by simpa using q,z⟩
theorem Zt.set:∀{ds:List D} {vs:List V} {d:D} {v:V} (i:Nat),Zt K H ι ds vs->Rep K H ι d v->Zt K H ι (ds.set i d) (vs.set i v)
 |[],_,_,_,_,h,_=>by rw[h.nil_inv];exact Zt.nil|d::ds,_,_,_,0,h,q=>by obtain⟨v,us,rfl,r,t⟩:=h.cons_inv;exact Zt.cons q t
 |d::ds,_,_,_,i+1,h,q=>by obtain⟨v,us,rfl,r,t⟩:=h.cons_inv;exact Zt.cons r (t.set i q)
theorem Zt.ints:∀(ns:List Int),Zt K H ι (ns.map D.int) (ns.map V.int)
 |[]=>Zt.nil|n::ns=>Zt.cons rfl (Zt.ints ns)
theorem Rep.jJ(h:Rep K H ι .non v):v= .non:=h
theorem Rep.g_{b:Bool}(h:Rep K H ι (.bl b) v):v= .bl b:=h
theorem Rep.int_inv{i:Int}(h:Rep K H ι (.int i) v):v= .int i:=h
theorem Rep.str_inv{x:List Nat}(h:Rep K H ι (.str x) v):v= .str ⟨x.toArray⟩:=h
theorem Rep.jr(h:Rep K H ι (.tup ds) v):∃a vs,v= .ref a/\cJ K H a vs/\Zt K H ι ds vs:=h
theorem Rep.sZ(h:Rep K H ι (.aH ds) v):∃a vs,v= .ref a/\pO K H a vs/\Zt K H ι ds vs:=h
theorem Rep.d_(h:Rep K H ι (.ref n) v):∃a,ι[n]?=Ya a/\v= .ref a:=h
theorem Rep.non:Rep K H ι .non .non:=rfl
theorem Rep.bl{b:Bool}:Rep K H ι (.bl b) (.bl b):=rfl
theorem Rep.int{i:Int}:Rep K H ι (.int i) (.int i):=rfl
theorem Rep.str{x:List Nat}:Rep K H ι (.str x) (.str ⟨x.toArray⟩):=rfl
theorem Rep.tup{a:Yq}{vs:List V}{ds:List D}(s:cJ K H a vs)(r:Zt K H ι ds vs):Rep K H ι (.tup ds) (.ref a):=⟨a,vs,rfl,s,r⟩
theorem Rep.ref{a:Yq}(s:ι[n]?=Ya a):Rep K H ι (.ref n) (.ref a):=⟨a,s,rfl⟩
end
def v_(e C:Yq)(dd:Option Yq)(h:aq):Prop:=∃o vs,h.get? e=Ya o/\o.cls= .ref C/\o.data= .fields vs/\o.dict=dd
noncomputable abbrev lZ(e C:Yq)(dd:Option Yq):HO:=.ext (v_ e C dd)
noncomputable def dk:dJ->Key
 | .inl i=>.inl i|.inr x=>.inr ⟨x.toArray⟩
def bT(K:Yb)(H:Hp)(ι:List Yq)(kvs:List (dJ×D))(ws:List (Key×V)):Prop:=ws.map (·.1)=kvs.map (λp=>dk p.1)/\Zt K H ι (kvs.map (·.2)) (ws.map (·.2))
def iz(K:Yb)(H:Hp)(ι:List Yq)(fs:List (List Nat×D))(gs:List (aj×V)):Prop:=gs.map (·.1)=fs.map (λp=>(⟨p.1.toArray⟩:aj))/\Zt K H ι (fs.map (·.2)) (gs.map (·.2))
def ClsAt(K:Yb)(c:List Nat)(C:Yq):Prop:=PySem.W.nsIn K Y4 ⟨c.toArray⟩=Ya (Ya (.ref C))
def JV(K:Yb)(H:Hp)(ι:List Yq)(fs:List (List Nat×D))(dd:Option Yq):Prop:=fs=[]\/∃dx o gs,dd=Ya dx/\H dx=Ya (.bJ o (.xd gs))/\iz K H ι fs gs
variable{ι:List Yq}
theorem JV.up{H':Hp}{ι':List Yq}{fs:List (List Nat×D)}{dd:Option Yq}(hf:∀b o gs,H b=Ya (.bJ o (.xd gs))->H' b=Ya (.bJ o (.xd gs)))(hr:∀ds vs,Zt K H ι ds vs->Zt K H' ι' ds vs)(h:JV K H ι fs dd):JV K H' ι' fs dd:=h.imp id λz=>let⟨dx,o,gs,e,q,r1,r2⟩:=z;⟨dx,o,gs,e,hf _ _ _ q,r1,hr _ _ r2⟩
noncomputable def l_(K:Yb)(H:Hp)(ι:List Yq):MO->Yq->Prop
 | .lst xs,a=>∃vs,H a=Ya (.lst vs)/\Zt K H ι xs vs|.dct kvs,a=>∃ws,H a=Ya (.dK ws)/\bT K H ι kvs ws|.cR kvs,a=>∃ws,(∃o,H a=Ya (.bJ o (.dK ws)))/\bT K H ι kvs ws|.ins c fs,a=>(∃C dx gs,H a=Ya (.ins C dx gs)/\(ClsAt K c C/\c.head?≠Ya 0)/\iz K H ι fs gs)\/∃C dd,H a=Ya (lZ a C dd)/\c.head?=Ya 0/\ClsAt K c.tail C/\JV K H ι fs dd
structure aA(K:Yb)(H:Hp)(ι:List Yq)(M:Store):Prop where
 len:ι.length=M.length
 nd:ι.Nodup
 obj:∀(n:Nat) o a,M[n]?=Ya o->ι[n]?=Ya a->l_ K H ι o a
def Loose(H:Hp)(p:Yq):Prop:=H p=Ye\/(∃vs,H p=Ya (.lst vs))\/(∃ws,H p=Ya (.dK ws))\/∃C dx gs,H p=Ya (.ins C dx gs)
variable{m:MO}
section
variable {K:Yb} {H H':Hp} {ι ι':List Yq} {M:Store} {p:Yq} {o:HO}
theorem Loose.ne{a:Yq}{u:HO}(l:Loose H p)(h:H a=Ya u)(h1:∀vs,u≠ .lst vs)(h2:∀ws,u≠ .dK ws)(h3:∀C dx gs,u≠ .ins C dx gs:=by exactλ_ _ _ z=>nomatch z):a≠p:=by
 rintro rfl;rcases l with l|⟨vs,l⟩|⟨ws,l⟩|⟨C,dx,gs,l⟩
 .rw[h]at l;cases l
 .rw[h]at l;exact h1 vs (eE l)
 .rw[h]at l;exact h2 ws (eE l)
 .rw[h]at l;exact h3 C dx gs (eE l)
theorem Loose.tup(l:Loose H p){a:Yq}{xs:List V}(h:cJ K H a xs):cJ K (upd H p o) a xs:=by
 rcases h with(h|⟨ob,h⟩)|h
 .exact .inl (.inl (by rw[Zr (l.ne h (λ_ z=>nomatch z) (λ_ z=>nomatch z))];exact h))
 .exact .inl (.inr ⟨ob,by rw[Zr (l.ne h (λ_ z=>nomatch z) (λ_ z=>nomatch z))];exact h⟩)
 .exact .inr h
theorem Loose.aH(l:Loose H p){a:Yq}{xs:List V}(h:pO K H a xs):pO K (upd H p o) a xs:=by
 rcases h with⟨ob,h⟩|h
 .exact .inl ⟨ob,by rw[Zr (l.ne h (λ_ z=>nomatch z) (λ_ z=>nomatch z))];exact h⟩
 .exact .inr h
theorem Loose.bJ(l:Loose H p){a:Yq}{ob:aB}{u:HO}(h:H a=Ya (.bJ ob u)):upd H p o a=Ya (.bJ ob u):=by rw[Zr (l.ne h (λ_ z=>nomatch z) (λ_ z=>nomatch z))];exact h
theorem Loose.ext(l:Loose H p):Ext K H ι (upd H p o) ι:=⟨λ_ _ h=>l.tup h,λ_ _ h=>l.aH h,λ_ _ h=>h,λ_ _ _ h=>l.bJ h⟩
theorem Loose.yX(l:Loose H p):Ext K H ι (upd H p o) (ι++[p]):=⟨λ_ _ h=>l.tup h,λ_ _ h=>l.aH h,λn a h=>by rw[Y6 (Yn.mp h).1];exact h,λ_ _ _ h=>l.bJ h⟩
theorem l_.mono{a:Yq}(e:Ext K H ι H' ι')(h:l_ K H ι m a)(k:H' a=H a):l_ K H' ι' m a:=by
 cases m with
 |lst xs=>obtain⟨vs,q,r⟩:=h;exact⟨vs,k.trans q,r.mono e⟩|dct kvs=>obtain⟨ws,q,r1,r2⟩:=h;exact⟨ws,k.trans q,r1,r2.mono e⟩|cR kvs=>obtain⟨ws,⟨o,q⟩,r1,r2⟩:=h;exact⟨ws,⟨o,k.trans q⟩,r1,r2.mono e⟩|ins c fs=>
  rcases h with⟨C,dx,gs,q,c,r1,r2⟩|⟨C,dd,q,z,c,r⟩
  .exact .inl ⟨C,dx,gs,k.trans q,c,r1,r2.mono e⟩
  .exact .inr ⟨C,dd,k.trans q,z,c,r.up (λb o g q=>e.bJ b o _ q) λ_ _ r=>r.mono e⟩
theorem l_.ne{a:Yq}(h:l_ K H ι m a):H a≠Ye:=by
 cases m with
 |lst xs=>obtain⟨vs,q,r⟩:=h;rw[q];simp|dct kvs=>obtain⟨ws,q,r⟩:=h;rw[q];simp|cR kvs=>obtain⟨ws,⟨o,q⟩,r⟩:=h;rw[q];simp|ins c fs=>rcases h with⟨C,dx,gs,q,r⟩|⟨C,dd,q,r⟩<;>(rw[q];simp)
theorem aA.at(S:aA K H ι M)(h:M[n]?=Ya m):∃a,ι[n]?=Ya a/\l_ K H ι m a:=by
 have hn:n<ι.length:=by rw[S.len];exact(Yn.mp h).1
 exact⟨ι[n],by simp[hn],S.obj n m _ h (by simp[hn])⟩
theorem aA.there(S:aA K H ι M){a:Yq}(h:ι[n]?=Ya a):∃m,M[n]?=Ya m/\l_ K H ι m a:=by
 have hn:n<M.length:=by rw[←S.len];exact(Yn.mp h).1
 exact⟨M[n],by simp[hn],S.obj n _ _ (by simp[hn]) h⟩
theorem aA.fresh(S:aA K H ι M)(hp:H p=Ye):p∉ι:=λh=>by obtain⟨n,hn⟩:=zr h;obtain⟨m,_,q⟩:=S.there hn;exact q.ne hp
theorem aA.other(S:aA K H ι M)(l:Loose H p)(hp:p∉ι):aA K (upd H p o) ι M:=⟨S.len,S.nd,λn m a h1 h2=>(S.obj n m a h1 h2).mono l.ext (by rw[Zr];rintro rfl;exact hp (q8 h2))⟩
theorem aA.new(S:aA K H ι M)(hp:H p=Ye)(h:l_ K (upd H p o) (ι++[p]) m p):aA K (upd H p o) (ι++[p]) (M++[m]):=by
 have hf:=S.fresh hp;refine⟨by simp[S.len],?_,λn m' a h1 h2=>?_⟩
 .exact List.nodup_append.mpr ⟨S.nd,by simp,λx hx y hy=>by
   have e:y=p:=by simpa using hy
   subst e;rintro rfl;exact hf hx⟩
 .by_cases hn:n<ι.length
  .rw[Y6 hn]at h2;rw[Y6 (by rw[←S.len];exact hn)]at h1;refine(S.obj n m' a h1 h2).mono (Loose.yX (.inl hp)) ?_;rw[Zr];rintro rfl;exact hf (q8 h2)
  .rw[xu (jT hn)]at h2;rw[xu (by rw[←S.len];exact jT hn)]at h1;have hlt:n-ι.length<1:=by
    have:=(Yn.mp h2).1;simpa using this
   have e0:n-ι.length=0:=Y9 (lA 1 234922001 T1 hlt) (jU _);rw[e0]at h2;rw[←S.len,e0]at h1;simp at h1 h2;subst h1 h2;exact h
theorem aA.put(S:aA K H ι M)(l0:Loose H p)(hn:ι[n]?=Ya p)(h:l_ K (upd H p o) ι m p):aA K (upd H p o) ι (M.set n m):=by
 obtain⟨m0,hm0,q0⟩:=S.there hn;refine⟨by simp[S.len],S.nd,λk m' a h1 h2=>?_⟩;by_cases hk:k=n
 .subst hk;rw[hn]at h2;cases h2;have hlt:k<M.length:=(Yn.mp hm0).1;rw[jR hlt]at h1;cases h1;exact h
 .rw[Y5 (cQ hk)]at h1;refine(S.obj k m' a h1 h2).mono (Loose.ext l0) ?_;rw[Zr];rintro rfl;have hlt1:=(Yn.mp h2);have hlt2:=(Yn.mp hn);exact hk ((VL S.nd).mp (hlt1.2.trans hlt2.2.symm))
theorem aA.lst(S:aA K H ι M)(hp:H p=Ye){xs:List D}{vs:List V}(r:Zt K H ι xs vs):Ext K H ι (upd H p (.lst vs)) (ι++[p])/\aA K (upd H p (.lst vs)) (ι++[p]) (M++[.lst xs])/\Rep K (upd H p (.lst vs)) (ι++[p]) (.ref M.length) (.ref p):=by have e:Ext K H ι (upd H p (.lst vs)) (ι++[p]):=Loose.yX (.inl hp);refine⟨e,S.new hp ⟨vs,dz,r.mono e⟩,Rep.ref ?_⟩;rw[←S.len];simp
theorem aA.wV(S:aA K H ι M)(hp:H p=Ye)(r:Zt K H ι xs vs):Ext K H ι (upd H p (.tup vs)) ι/\aA K (upd H p (.tup vs)) ι M/\Rep K (upd H p (.tup vs)) ι (.tup xs) (.ref p):=by have e:Ext K H ι (upd H p (.tup vs)) ι:=Loose.ext (.inl hp);exact⟨e,S.other (.inl hp) (S.fresh hp),Rep.tup (cJ.of dz) (r.mono e)⟩
theorem aA.Cv(S:aA K H ι M)(l0:Loose H p)(hn:ι[n]?=Ya p)(r:Zt K H ι xs vs):Ext K H ι (upd H p (.lst vs)) ι/\aA K (upd H p (.lst vs)) ι (M.set n (.lst xs)):=by have e:Ext K H ι (upd H p (.lst vs)) ι:=Loose.ext l0;exact⟨e,S.put l0 hn ⟨vs,dz,r.mono e⟩⟩
end
def bF(K:Yb)(H:Hp)(ι:List Yq)(env:Zu)(σ:St):Prop:=env.length=σ.length/\∀(i:Nat) d,env[i]?=Ya (Ya d)->∃v,σ[i]?=Ya (Ya v)/\Rep K H ι d v
variable{σ:St}
theorem bF.mono{H':Hp}{ι':List Yq}(r:bF K H ι env σ)(e:Ext K H ι H' ι'):bF K H' ι' env σ:=⟨r.1,λi d h=>let⟨v,q,z⟩:=r.2 i d h;⟨v,q,z.mono e⟩⟩
theorem bF.set(r:bF K H ι env σ)(i:Nat)(h:Rep K H ι d v):bF K H ι (env.set i (Ya d)) (σ.set i (Ya v)):=by
 refine⟨by simp[r.1],λj e hj=>?_⟩;by_cases hij:j=i
 .subst hij;have hlt:j<env.length:=by
   have:=(Yn.mp hj).1;simpa using this
  rw[jR hlt]at hj;cases hj;exact⟨v,by rw[jR (by rw[←r.1];exact hlt)],h⟩
 .rw[Y5 (cQ hij)]at hj;obtain⟨w,q,z⟩:=r.2 j e hj;exact⟨w,by rw[Y5 (cQ hij)];exact q,z⟩
def Zw(K:Yb)(H:Hp)(ι:List Yq)(Q:VK)(r:R3 D):Prop:=match r with
 | .ok d M'=>∀v H' ι',Ext K H ι H' ι'->aA K H' ι' M'->Rep K H' ι' d v->Q v H'|_=>False
inductive TOf(K:Yb)(f:E3)(σ:St)(H:Hp)(Q:VK):Prop where
 |mk (ι:List Yq) (M:Store) (env:Zu) (S:aA K H ι M) (E:bF K H ι env σ) (h:Zw K H ι Q (f env M)):TOf K f σ H Q
def oA(K:Yb)(f:E3):TE:=λσ H Q=>TOf K f σ H Q
def qL(K:Yb)(H:Hp)(ι:List Yq)(Q:Bool->Hp->Prop)(r:R3 D):Prop:=match r with
 | .ok (.bl b) M'=>∀H' ι',Ext K H ι H' ι'->aA K H' ι' M'->Q b H'|_=>False
inductive TTf(K:Yb)(f:E3)(σ:St)(H:Hp)(Q:Bool->Hp->Prop):Prop where
 |mk (ι:List Yq) (M:Store) (env:Zu) (S:aA K H ι M) (E:bF K H ι env σ) (h:qL K H ι Q (f env M)):TTf K f σ H Q
def tTf(K:Yb)(f:E3):TT:=λσ H Q=>TTf K f σ H Q
def Aq(K:Yb)(H:Hp)(ι:List Yq)(Q:List V->Hp->Prop)(r:R3 (List D)):Prop:=match r with
 | .ok ds M'=>∀vs H' ι',Ext K H ι H' ι'->aA K H' ι' M'->Zt K H' ι' ds vs->Q vs H'|_=>False
inductive TAf(K:Yb)(f:cN)(σ:St)(H:Hp)(Q:List V->Hp->Prop):Prop where
 |mk (ι:List Yq) (M:Store) (env:Zu) (S:aA K H ι M) (E:bF K H ι env σ) (h:Aq K H ι Q (f env M)):TAf K f σ H Q
def QR(K:Yb)(f:cN):TA:=λσ H Q=>TAf K f σ H Q
def E_(K:Yb)(H:Hp)(ι:List Yq)(Q:Option Int->Hp->Prop)(r:R3 (Option Int)):Prop:=match r with
 | .ok o M'=>∀H' ι',Ext K H ι H' ι'->aA K H' ι' M'->Q o H'|_=>False
def tOo(K:Yb)(f:rO):TO:=λσ H Q=>∃ι M env,aA K H ι M/\bF K H ι env σ/\E_ K H ι Q (f env M)
def m_(K:Yb)(H:Hp)(ι:List Yq)(E:Ends)(r:O3):Prop:=match r with
 | .nx env' M'=>∀σ' H' ι',Ext K H ι H' ι'->aA K H' ι' M'->bF K H' ι' env' σ'->E.nx σ' H'|.bk env' M'=>∀σ' H' ι',Ext K H ι H' ι'->aA K H' ι' M'->bF K H' ι' env' σ'->E.bk σ' H'|.ct env' M'=>∀σ' H' ι',Ext K H ι H' ι'->aA K H' ι' M'->bF K H' ι' env' σ'->E.ct σ' H'|.rt d M'=>∀v H' ι',Ext K H ι H' ι'->aA K H' ι' M'->Rep K H' ι' d v->E.rt v H'
 |_=>False
inductive TSf(K:Yb)(f:S3)(D:Ends)(σ:St)(H:Hp):Prop where
 |mk (ι:List Yq) (M:Store) (env:Zu) (S:aA K H ι M) (E:bF K H ι env σ) (h:m_ K H ι D (f env M)):TSf K f D σ H
def tSf(K:Yb)(f:S3):TS:=λE σ H=>TSf K f E σ H
def C3(X:Cx)(e:Expr)(f:E3):Prop:=PE X e (oA X.K f)
def CT(X:Cx)(e:Expr)(f:E3):Prop:=PT X e (tTf X.K f)
def CA(X:Cx)(es:List Expr)(f:cN):Prop:=PA X es (QR X.K f)
def CO(X:Cx)(e:Option Expr)(f:rO):Prop:=PO X e (tOo X.K f)
def CS(X:Cx)(st:Yd2)(f:S3):Prop:=PS X st (tSf X.K f)
def pR(X:Cx)(st:List Yd2)(f:S3):Prop:=jd X st (tSf X.K f)
variable{e:Expr}{X:Cx}
theorem _root_.L2.PE.imp{t t':TE}(h:PE X e t)(i:∀σ H Q,t' σ H Q->t σ H Q):PE X e t':=λpins s σ H Q I q=>h pins s σ H Q I (i σ H Q q)
theorem _root_.L2.PT.imp{t t':TT}(h:PT X e t)(i:∀σ H Q,t' σ H Q->t σ H Q):PT X e t':=λpins s σ H Q I q=>h pins s σ H Q I (i σ H Q q)
theorem _root_.L2.PA.imp{e:List Expr}{t t':TA}(h:PA X e t)(i:∀σ H Q,t' σ H Q->t σ H Q):PA X e t':=λpos pins s σ H Q I q=>h pos pins s σ H Q I (i σ H Q q)
theorem _root_.L2.PO.imp{e:Option Expr}{t t':TO}(h:PO X e t)(i:∀σ H Q,t' σ H Q->t σ H Q):PO X e t':=λpins s σ H Q I q=>h pins s σ H Q I (i σ H Q q)
theorem _root_.L2.PS.imp{e:Yd2}{t t':TS}(h:PS X e t)(i:∀D σ H,t' D σ H->t D σ H):PS X e t':=λpins s σ H D I q=>h pins s σ H D I (i D σ H q)
theorem _root_.L2.jd.imp{e:List Yd2}{t t':TS}(h:jd X e t)(i:∀D σ H,t' D σ H->t D σ H):jd X e t':=λpins s σ H D I q=>h pins s σ H D I (i D σ H q)
theorem _root_.L2.bf.imp{f:Yd->Yd->nG Yd}{r r':R2}(h:bf X f r)(i:∀x y H Q,r' x y H Q->r x y H Q):bf X f r':=λpins s σ H x y v u Q I rx ry q=>h pins s σ H x y v u Q I rx ry (i x y H Q q)
theorem _root_.L2.ug.imp{f:Yd->nG Yd}{r r':V->Hp->VK->Prop}(h:ug X f r)(i:∀x H Q,r' x H Q->r x H Q):ug X f r':=λpins s σ H x v Q I rx q=>h pins s σ H x v Q I rx (i x H Q q)
theorem _root_.L2.cg.imp{f:Yd}{r r':List V->Hp->VK->Prop}(h:cg X f r)(i:∀x H Q,r' x H Q->r x H Q):cg X f r':=λpins s σ H xs us Q I rx q=>h pins s σ H xs us Q I rx (i xs H Q q)
theorem _root_.L2.lG.imp{r r':R2}(h:lG X r)(i:∀x y H Q,r' x y H Q->r x y H Q):lG X r':=λvalue slice pins s σ H x y v u Q I rx ry q hs=>h value slice pins s σ H x y v u Q I rx ry (i x y H Q q) hs
theorem _root_.L2.jw.imp{r r':V->Option Int->Option Int->Hp->VK->Prop}(h:jw X r)(i:∀x lo hi H Q,r' x lo hi H Q->r x lo hi H Q):jw X r':=λpins s σ H x v vl vu lo hi sl Q I rx hs pl pu q=>h pins s σ H x v vl vu lo hi sl Q I rx hs pl pu (i x lo hi H Q q)
variable{r:R3 D}{Q:VK}
section
variable {K:Yb} {H H1:Hp} {ι ι1:List Yq}
theorem Zw.up(e:Ext K H ι H1 ι1)(h:Zw K H ι Q r):Zw K H1 ι1 Q r:=by
 cases r with
 |ok d M=>exactλv H' ι' e' S r=>h v H' ι' (e.trans e') S r|exc x M=>exact h|bad=>exact h
theorem qL.up{Q:Bool->Hp->Prop}(e:Ext K H ι H1 ι1)(h:qL K H ι Q r):qL K H1 ι1 Q r:=by
 cases r with
 |ok d M=>cases d<;>first|exact h|exactλH' ι' e' S=>h H' ι' (e.trans e') S
 |exc x M=>exact h|bad=>exact h
theorem m_.up{Q:Ends}{r:O3}(e:Ext K H ι H1 ι1)(h:m_ K H ι Q r):m_ K H1 ι1 Q r:=by
 cases r with
 |nx d M=>exactλv H' ι' e' S r=>h v H' ι' (e.trans e') S r|bk d M=>exactλv H' ι' e' S r=>h v H' ι' (e.trans e') S r|ct d M=>exactλv H' ι' e' S r=>h v H' ι' (e.trans e') S r|rt d M=>exactλv H' ι' e' S r=>h v H' ι' (e.trans e') S r
 |exc x M=>exact h|bad=>exact h
theorem Zw.ok(h:Zw K H ι Q (.ok d M))(S:aA K H ι M)(r:Rep K H ι d v):Q v H:=h v H ι Ext.refl S r
theorem Zw.bind{r:R3 α}{k:α->Store->R3 D}(h:Zw K H ι Q (r.bind k)):∃a M,r= .ok a M/\Zw K H ι Q (k a M):=by
 cases r with
 |ok a M=>exact⟨a,M,rfl,h⟩|exc x M=>exact h.elim|bad=>exact h.elim
theorem Aq.bind{Q:List V->Hp->Prop}{r:R3 α}{k:α->Store->R3 (List D)}(h:Aq K H ι Q (r.bind k)):∃a M,r= .ok a M/\Aq K H ι Q (k a M):=by
 cases r with
 |ok a M=>exact⟨a,M,rfl,h⟩|exc x M=>exact h.elim|bad=>exact h.elim
theorem E_.bind{Q:Option Int->Hp->Prop}{r:R3 α}{k:α->Store->R3 (Option Int)}(h:E_ K H ι Q (r.bind k)):∃a M,r= .ok a M/\E_ K H ι Q (k a M):=by
 cases r with
 |ok a M=>exact⟨a,M,rfl,h⟩|exc x M=>exact h.elim|bad=>exact h.elim
theorem qL.bind{Q:Bool->Hp->Prop}{r:R3 α}{k:α->Store->R3 D}(h:qL K H ι Q (r.bind k)):∃a M,r= .ok a M/\qL K H ι Q (k a M):=by
 cases r with
 |ok a M=>exact⟨a,M,rfl,h⟩|exc x M=>exact h.elim|bad=>exact h.elim
end
inductive R2I(K:Yb)(op:D->D->Store->R3 D)(x y:V)(H:Hp)(Q:VK):Prop where
 |mk (ι:List Yq) (M:Store) (a b:D) (S:aA K H ι M) (ra:Rep K H ι a x) (rb:Rep K H ι b y) (h:Zw K H ι Q (op a b M)):R2I K op x y H Q
def r2(K:Yb)(op:D->D->Store->R3 D):R2:=λx y H Q=>R2I K op x y H Q
noncomputable def r1(K:Yb)(op:D->Store->R3 D):V->Hp->VK->Prop:=λx H Q=>∃ι M a,aA K H ι M/\Rep K H ι a x/\Zw K H ι Q (op a M)
inductive RBI(K:Yb)(b:List D->Store->R3 D)(xs:List V)(H:Hp)(Q:VK):Prop where
 |mk (ι:List Yq) (M:Store) (ds:List D) (S:aA K H ι M) (r:Zt K H ι ds xs) (h:Zw K H ι Q (b ds M)):RBI K b xs H Q
noncomputable def rB(K:Yb)(b:List D->Store->R3 D):List V->Hp->VK->Prop:=λxs H Q=>RBI K b xs H Q
noncomputable def rM(K:Yb)(m:D->List D->Store->R3 D):V->List V->Hp->VK->Prop:=λx xs H Q=>∃ι M a ds,aA K H ι M/\Rep K H ι a x/\Zt K H ι ds xs/\Zw K H ι Q (m a ds M)
noncomputable def rS(K:Yb):V->Option Int->Option Int->Hp->VK->Prop:=λx lo hi H Q=>∃ι M a,aA K H ι M/\Rep K H ι a x/\Zw K H ι Q (z9 a lo hi M)
theorem JW{op:D->D->Store->R3 D}(σ:St)(H:Hp)(Q:VK)(h:oA K (e2 op f g) σ H Q):Ei (r2 K op) (oA K f) (oA K g) σ H Q:=by obtain⟨ι,M,env,S,E,h⟩:=h;obtain⟨a,M1,e1,h⟩:=Zw.bind h;obtain⟨b,M2,e2,h⟩:=Zw.bind h;refine⟨ι,M,env,S,E,?_⟩;rw[e1];intro v H1 ι1 x1 S1 r1;refine⟨ι1,M1,env,S1,E.mono x1,?_⟩;rw[e2];intro u H2 ι2 x2 S2 r2;exact⟨ι2,M2,a,b,S2,r1.mono x2,r2,(h.up x1).up x2⟩
theorem ZsF{op:D->Store->R3 D}(σ:St)(H:Hp)(Q:VK)(h:oA K (e1 op f) σ H Q):YL (r1 K op) (oA K f) σ H Q:=by obtain⟨ι,M,env,S,E,h⟩:=h;obtain⟨a,M1,e1,h⟩:=Zw.bind h;refine⟨ι,M,env,S,E,?_⟩;rw[e1];intro v H1 ι1 x1 S1 r1;exact⟨ι1,M1,a,S1,r1,h.up x1⟩
variable{u:Yd}
section
variable {X:Cx} {a b c e o:Expr} {es:List Expr} {pos p:aY} {f g h:E3} {gl:cN}
theorem Ze(i:Nat){x:aj}(hN:X.N[i]?=Ya x:=by rfl)(hv:Ji X.env.scope x:=by first|exact Or.inl rfl|exact Or.inr (Or.inl rfl)|exact Or.inr (Or.inr rfl))(hd:(x==("__debug__":aj))=false:=by decide)(hcd:(x==("__classdict__":aj))=false:=by decide):C3 X (.Name x pos) (Zb i):=(uc hN hv hd hcd).imp λσ H Q ak=>by
 obtain⟨ι,M,env,S,E,h⟩:=ak;unfold Zb at h;cases q:env[i]? with
 |none=>rw[q]at h;exact h.elim|some od=>
  cases od with
  |none=>rw[q]at h;exact h.elim|some d=>rw[q]at h;obtain⟨v,e1,r⟩:=E.2 i d q;exact⟨v,e1,Zw.ok h S r⟩
theorem Zh{i j}:C3 X (.Constant (.int i) j pos) (eC (.int i)):=X8.imp λσ H Q ⟨ι,M,env,S,E,h⟩=>Zw.ok h S Rep.int
theorem JX{i j}:C3 X (.Constant (.bool i) j pos) (eC (.bl i)):=Zuz.imp λσ H Q ⟨ι,M,env,S,E,h⟩=>Zw.ok h S Rep.bl
theorem ye{j}:C3 X (.Constant .none j pos) (eC .non):=Zsr.imp λσ H Q ⟨ι,M,env,S,E,h⟩=>Zw.ok h S Rep.non
theorem Zq{x:aj}{cs:List Nat}{j}(hx:x=⟨cs.toArray⟩:=by decide +kernel):C3 X (.Constant (.str x) j pos) (eC (.str cs)):=Eh.imp λσ H Q ak=>by obtain⟨ι,M,env,S,E,h⟩:=ak;subst hx;exact Zw.ok h S Rep.str
theorem QS{x:aj}(hm:X.mg x=Ya u)(r:RelV v u)(hr:∀H ι,Rep X.K H ι d v)(hg:Gl X x:=by rfl)(hd:(x==("__debug__":aj))=false:=by decide):C3 X (.Name x pos) (eC d):=(Jk hg hm r hd).imp λσ H Q ⟨ι,M,env,S,E,h⟩=>Zw.ok h S (hr H ι)
theorem Zm{op:Operator}{q:D->D->Store->R3 D}(ho:bf X (ig op) (r2 X.K q))(ha:C3 X a f)(hb:C3 X b g):C3 X (.BinOp a op b pos) (e2 q f g):=(Ztz ho ha hb).imp JW
theorem Ar{op:UnaryOp}{q:D->Store->R3 D}(ho:ug X (Ht op) (r1 X.K q))(ha:C3 X a f):C3 X (.UnaryOp op a pos) (e1 q f):=(ZuU ho ha).imp ZsF
theorem Av{op:CmpOp}{q:D->D->Store->R3 D}(ho:bf X (gK op) (r2 X.K q))(ha:C3 X a f)(hb:C3 X b g)(hm:Hh op b=false:=by rfl):C3 X (.Compare a [op] [b] pos) (e2 q f g):=(Zqj ho ha hb hm).imp JW
theorem ZhK{Q:Bool->Hp->Prop}(h:qL K H ι Q r):Zw K H ι (λx H'=>∃k,x= .bl k/\Q k H') r:=by
 cases r with
 |ok d M=>
  cases d with
  |bl b=>exactλv H' ι' e S r=>⟨b,r.g_,h H' ι' e S⟩|_=>exact h.elim
 |exc x M=>exact h.elim|bad=>exact h.elim
theorem rT(h:C3 X e f)(he:∀whole,isTrue e X.env whole=(do let v ←whole;zm e.pos;tK [v] (truthy v)):=by intro _;rfl):CT X e f:=(ZsI h he).imp λσ H Q ⟨ι,M,env,S,E,h⟩=>⟨ι,M,env,S,E,ZhK h⟩
theorem b7{op:CmpOp}{q:D->D->Store->R3 D}(ho:bf X (gK op) (r2 X.K q))(ha:C3 X a f)(hb:C3 X b g)(hm:Hh op b=false:=by rfl):CT X (.Compare a [op] [b] pos) (e2 q f g):=(ZpP ho ha hb hm).imp λσ H Q ⟨ι,M,env,S,E,h⟩=>JW σ H _ ⟨ι,M,env,S,E,ZhK h⟩
end
variable{q:List D->Store->R3 D}{st:Yd2}
section
variable {X:Cx} {a b c e o:Expr} {es rest:List Expr} {pos p:aY} {f g h:E3} {gl:cN}
theorem Zub{op}(h:C3 X a f):C3 X (.BoolOp op [a] pos) f:=ZrS h
theorem ZuV(ha:C3 X a f)(hb:C3 X (.BoolOp .And (b::rest) pos) g):C3 X (.BoolOp .And (a::b::rest) pos) (cT f g):=(Zrg ha hb).imp λσ H Q ak=>by
 obtain⟨ι,M,env,S,E,h⟩:=ak;obtain⟨d,M1,e1,h⟩:=Zw.bind h;refine⟨ι,M,env,S,E,?_⟩;rw[e1];intro v H1 ι1 x1 S1 r1;cases d with
 |bl k=>
  refine⟨k,r1.g_,?_⟩;cases k with
  |true=>rw[if_pos rfl];exact⟨ι1,M1,env,S1,E.mono x1,h.up x1⟩|false=>rw[if_neg (by decide)];exact Zw.ok (h.up x1) S1 Rep.bl
 |_=>exact h.elim
def CW(X:Cx)(e:Expr)(f:E3):Prop:=PW X e (tTf X.K f)
theorem CW.ct(h:CW X e f):CT X e f:=PW.pt h
theorem PW.imp{t t':TT}(h:PW X e t)(i:∀σ H Q,t' σ H Q->t σ H Q):PW X e t':=λwh pins s σ H Q I q=>h wh pins s σ H Q I (i σ H Q q)
theorem uF(ha:CT X a f):CW X (.BoolOp .And [a] pos) f:=Zp9 ha
theorem Aw(ha:CT X a f):CW X (.BoolOp .Or [a] pos) f:=Zr7 ha
theorem rW(ha:CT X a f)(hb:CW X (.BoolOp .And (b::rest) pos) g):CW X (.BoolOp .And (a::b::rest) pos) (cT f g):=PW.imp (Zr4 ha hb) λσ H Q ak=>by
 obtain⟨ι,M,env,S,E,h⟩:=ak;obtain⟨d,M1,e1,h⟩:=qL.bind h;refine⟨ι,M,env,S,E,?_⟩;rw[e1];cases d with
 |bl k=>
  intro H1 ι1 x1 S1;cases k with
  |true=>rw[if_pos rfl];exact⟨ι1,M1,env,S1,E.mono x1,h.up x1⟩|false=>rw[if_neg (by decide)];exact h H1 ι1 x1 S1
 |_=>exact h.elim
theorem Ax(ha:CT X a f)(hb:CW X (.BoolOp .Or (b::rest) pos) g):CW X (.BoolOp .Or (a::b::rest) pos) (jh f g):=PW.imp (ZuE ha hb) λσ H Q ak=>by
 obtain⟨ι,M,env,S,E,h⟩:=ak;obtain⟨d,M1,e1,h⟩:=qL.bind h;refine⟨ι,M,env,S,E,?_⟩;rw[e1];cases d with
 |bl k=>
  intro H1 ι1 x1 S1;cases k with
  |false=>rw[if_neg (by decide)];exact⟨ι1,M1,env,S1,E.mono x1,h.up x1⟩|true=>rw[if_pos rfl];exact h H1 ι1 x1 S1
 |_=>exact h.elim
theorem Fd(ha:CT X a f):CT X (.UnaryOp .Not a pos) (e1 gW f):=(ZrD ha).imp λσ H Q ak=>by
 obtain⟨ι,M,env,S,E,h⟩:=ak;obtain⟨d,M1,e1,h⟩:=qL.bind h;refine⟨ι,M,env,S,E,?_⟩;rw[e1];cases d with
 |bl k=>exactλH1 ι1 x1 S1=>h H1 ι1 x1 S1|_=>exact h.elim
theorem Zv5(hc:CT X c f)(ha:C3 X a g)(hb:C3 X b h):C3 X (.IfExp c a b pos) (um f g h):=(ZnV hc ha hb).imp λσ H Q ak=>by
 obtain⟨ι,M,env,S,E,h⟩:=ak;obtain⟨d,M1,e1,h⟩:=Zw.bind h;refine⟨ι,M,env,S,E,?_⟩;rw[e1];cases d with
 |bl k=>
  intro H1 ι1 x1 S1;cases k with
  |true=>rw[if_pos rfl];exact⟨ι1,M1,env,S1,E.mono x1,h.up x1⟩|false=>rw[if_neg (by decide)];exact⟨ι1,M1,env,S1,E.mono x1,h.up x1⟩
 |_=>exact h.elim
theorem Zj:CA X [] Zf:=El.imp λσ H Q ⟨ι,M,env,S,E,h⟩=>h [] H ι Ext.refl S Zt.nil
theorem Zc(ha:C3 X e f)(hr:CA X es gl)(hs:Yp (e::es) X.env=(false,aF e X.env)::Yp es X.env:=by rfl):CA X (e::es) (Za f gl):=(uh ha hr hs).imp λσ H Q ak=>by obtain⟨ι,M,env,S,E,h⟩:=ak;obtain⟨d,M1,e1,h⟩:=Aq.bind h;obtain⟨ds,M2,e2,h⟩:=Aq.bind h;refine⟨ι,M,env,S,E,?_⟩;rw[e1];intro v H1 ι1 x1 S1 r1;refine⟨ι1,M1,env,S1,E.mono x1,?_⟩;rw[e2];intro vs H2 ι2 x2 S2 r2;exact h (v::vs) H2 ι2 (x1.trans x2) S2 (Zt.cons (r1.mono x2) r2)
theorem QT{x1}(h:CA X es gl):C3 X (.Tuple es x1 pos) (n6 gl):=(Zrz h).imp λσ H Q ak=>by
 obtain⟨ι,M,env,S,E,h⟩:=ak;obtain⟨ds,M1,e1,h⟩:=Zw.bind h;refine⟨ι,M,env,S,E,?_⟩;rw[e1];intro vs H1 ι1 x1 S1 r1;by_cases hz:ds.length<=SZ
 .rw[if_pos hz]at h;refine⟨by rw[r1.length];exact Ym hz lY,λp hp=>?_⟩;obtain⟨x2,S2,r2⟩:=S1.wV hp r1;exact h _ _ _ (x1.trans x2) S2 r2
 .rw[if_neg hz]at h;exact h.elim
theorem dU(h:CA X es gl):C3 X (.List es pos) (bA gl):=(ZsY h).imp λσ H Q ak=>by
 obtain⟨ι,M,env,S,E,h⟩:=ak;obtain⟨ds,M1,e1,h⟩:=Zw.bind h;refine⟨ι,M,env,S,E,?_⟩;rw[e1];intro vs H1 ι1 x1 S1 r1;by_cases hz:ds.length<=SZ
 .rw[if_pos hz]at h;refine⟨by rw[r1.length];exact Ym hz lY,λp hp=>?_⟩;obtain⟨x2,S2,r2⟩:=S1.lst hp r1;exact h _ _ _ (x1.trans x2) S2 r2
 .rw[if_neg hz]at h;exact h.elim
theorem Zoh(σ:St)(H:Hp)(Q:VK)(h:oA K (Zx q gl) σ H Q):zW (rB K q) (QR K gl) σ H Q:=by obtain⟨ι,M,env,S,E,h⟩:=h;obtain⟨ds,M1,e1,h⟩:=Zw.bind h;refine⟨ι,M,env,S,E,?_⟩;rw[e1];intro vs H1 ι1 x1 S1 r1;exact⟨ι1,M1,ds,S1,r1,h.up x1⟩
theorem fJ{x:aj}{id:String}(hc:cg X (.builtin id) (rB X.K q))(hm:X.mg x=Ye)(hv:gb x=Ya (.builtin id))(ha:CA X (e::es) gl)(hg:Gl X x:=by rfl)(hn:x≠ "__name__":=by decide)(hdb:(x==("__debug__":aj))=false:=by decide)(he:Yp (e::es) X.env=(false,aF e X.env)::Yp es X.env:=by rfl)(hpl:(bN pos (Yp es X.env)).any (·.1)=false:=by rfl):C3 X (.Call (.Name x p) (e::es) [] pos) (Zx q gl):=(Qf hc hg hm hv ha hn hdb he hpl).imp Zoh
theorem ni{x:aj}{T:String}(hc:cg X (.type T) (rB X.K q))(hm:X.mg x=Ye)(hv:gb x=Ya (.type T))(ha:CA X (e::es) gl)(hg:Gl X x:=by rfl)(hn:x≠ "__name__":=by decide)(hdb:(x==("__debug__":aj))=false:=by decide)(he:Yp (e::es) X.env=(false,aF e X.env)::Yp es X.env:=by rfl)(hpl:(bN pos (Yp es X.env)).any (·.1)=false:=by rfl):C3 X (.Call (.Name x p) (e::es) [] pos) (Zx q gl):=(ZmS hc hg hm hv ha hn hdb he hpl).imp Zoh
theorem eF(hr:lG X (r2 X.K aM))(ha:C3 X a f)(hb:C3 X b g)(hs:ZK b:=by exactλ_ _=>rfl):C3 X (.Subscript a b pos) (e2 aM f g):=(Zui hr ha hb hs).imp JW
theorem iB:CO X Ye aV:=ZpR.imp λσ H Q ⟨ι,M,env,S,E,h⟩=>h H ι Ext.refl S
theorem gq(h:C3 X e f):CO X (Ya e) (aN f):=(Zp6 h).imp λσ H Q ak=>by
 obtain⟨ι,M,env,S,E,h⟩:=ak;obtain⟨d,M1,e1,h⟩:=E_.bind h;refine⟨ι,M,env,S,E,?_⟩;rw[e1];intro v H1 ι1 x1 S1 r1;cases d with
 |int i=>exact⟨i,r1.int_inv,h H1 ι1 x1 S1⟩|_=>exact h.elim
theorem gY{lo hi:Option Expr}{ol oh:rO}{p2:aY}(hr:jw X (rS X.K))(he:C3 X e f)(hl:CO X lo ol)(hu:CO X hi oh):C3 X (.Subscript e (.Slice lo hi Ye p2) pos) (aW f ol oh):=(Zn3 hr he hl hu).imp λσ H Q ak=>by obtain⟨ι,M,env,S,E,h⟩:=ak;obtain⟨d,M1,e1,h⟩:=Zw.bind h;obtain⟨l,M2,e2,h⟩:=Zw.bind h;obtain⟨u,M3,e3,h⟩:=Zw.bind h;refine⟨ι,M,env,S,E,?_⟩;rw[e1];intro v H1 ι1 x1 S1 r1;refine⟨ι1,M1,env,S1,E.mono x1,?_⟩;rw[e2];intro H2 ι2 x2 S2;refine⟨ι2,M2,env,S2,(E.mono x1).mono x2,?_⟩;rw[e3];intro H3 ι3 x3 S3;exact⟨ι3,M3,d,S3,(r1.mono x2).mono x3,((h.up x1).up x2).up x3⟩
theorem cP:pR X [] aU:=Zpz.imp λD σ H ⟨ι,M,env,S,E,h⟩=>h σ H ι Ext.refl S E
theorem bM{u:S3}(h:CS X st u):pR X [st] u:=Jo h
theorem Zi{sts:List Yd2}{u w:S3}(h1:CS X st u)(h2:pR X sts w):pR X (st::sts) (Zo u w):=(Jm h1 h2).imp λD σ H ak=>by
 obtain⟨ι,M,env,S,E,h⟩:=ak;refine⟨ι,M,env,S,E,?_⟩;have h':m_ X.K H ι D (match u env M with| .nx env' M'=>w env' M'|o=>o):=h;cases q:u env M with
 |nx env' M'=>rw[q]at h';exactλσ' H' ι' x S' E'=>⟨ι',M',env',S',E',h'.up x⟩|_=>rw[q]at h';exact h'
theorem cW{c1:Expr}{x y:List Yd2}{u w:S3}(hc:CT X c1 f)(ha:pR X x u)(hb:pR X y w):CS X (.If c1 x y pos) (aJ f u w):=(YB hc ha hb).imp λD σ H ak=>by
 obtain⟨ι,M,env,S,E,h⟩:=ak;refine⟨ι,M,env,S,E,?_⟩;unfold aJ at h;cases q:f env M with
 | ok d M1=>
  rw[q]at h;cases d with
  |bl k=>
   intro H1 ι1 x1 S1;cases k with
   |true=>rw[if_pos rfl];exact⟨ι1,M1,env,S1,E.mono x1,h.up x1⟩|false=>rw[if_neg (by decide)];exact⟨ι1,M1,env,S1,E.mono x1,h.up x1⟩
  |_=>exact h.elim
 |exc x M1=>rw[q]at h;exact h.elim|bad=>rw[q]at h;exact h.elim
theorem cu(h:C3 X e f):CS X (.Return (Ya e) pos) (aK f):=(ZrG h).imp λD σ H ak=>by
 obtain⟨ι,M,env,S,E,h⟩:=ak;refine⟨ι,M,env,S,E,?_⟩;unfold aK at h;cases q:f env M with
 |ok d M1=>rw[q]at h;exact h|exc x M1=>rw[q]at h;exact h.elim|bad=>rw[q]at h;exact h.elim
theorem QV(h:C3 X e f)(hs:xj e Ye pos.line X.env=pure false:=by rfl):CS X (.Expr e pos) (fG f):=(Jp h hs).imp λD σ H ak=>by
 obtain⟨ι,M,env,S,E,h⟩:=ak;refine⟨ι,M,env,S,E,?_⟩;unfold fG at h;cases q:f env M with
 |ok d M1=>rw[q]at h;exactλv H1 ι1 x1 S1 r1=>h σ H1 ι1 x1 S1 (E.mono x1)|exc x M1=>rw[q]at h;exact h.elim|bad=>rw[q]at h;exact h.elim
theorem bG(i:Nat){x:aj}{pos':aY}(hN:X.N.Nodup)(he:C3 X e f)(hi:X.N[i]?=Ya x:=by rfl)(hx:Loc X.env.scope x:=by first|exact Or.inl rfl|exact Or.inr rfl)(hs:xj e (Ya (.Name x pos')) pos.line X.env=pure false:=by rfl)(hf:X.fn x=true\/X.env.scope.names.lookup x=Ya .local:=by first|exact .inl rfl|exact .inr rfl):CS X (.Assign [.Name x pos'] e pos) (aD i f):=(Zs0 hN hi hx he hs hf).imp λD σ H ak=>by
 obtain⟨ι,M,env,S,E,h⟩:=ak;refine⟨ι,M,env,S,E,?_⟩;unfold aD at h;cases q:f env M with
 |ok d M1=>rw[q]at h;exactλv H1 ι1 x1 S1 r1=>h _ H1 ι1 x1 S1 ((E.mono x1).set i r1)|exc x M1=>rw[q]at h;exact h.elim|bad=>rw[q]at h;exact h.elim
end
noncomputable def yg(K:Yb)(n:Nat)(F:F3):Sp:=λvs H Q _=>∃ι M ds,aA K H ι M/\Zt K H ι ds vs/\ds.length=n/\Zw K H ι Q (F ds M)
section
variable {K:Yb} {H H':Hp} {ι ι':List Yq} {M M':Store}
mutual
theorem Rep.below:∀{d:D} {v:V},Rep K H ι d v->L3.below ι.length d=true
 | .non,_,_=>rfl|.bl _,_,_=>rfl|.int _,_,_=>rfl|.str _,_,_=>rfl
 | .tup ds,_,h=>by obtain⟨a,vs,_,_,r⟩:=h.jr;exact Zt.eN (ds:=ds) r|.aH ds,_,h=>by obtain⟨a,vs,_,_,r⟩:=h.sZ;exact Zt.eN (ds:=ds) r|.ref n,_,h=>by obtain⟨a,q,_⟩:=h.d_;exact decide_eq_true (Yn.mp q).1
theorem Zt.eN:∀{ds:List D} {vs:List V},Zt K H ι ds vs->L3.eN ι.length ds=true
 |[],_,_=>rfl|d::ds,_,h=>by obtain⟨v,ws,_,r,q⟩:=h.cons_inv;exact Yaj.mpr ⟨Rep.below (d:=d) r,Zt.eN (ds:=ds) q⟩
end
mutual
theorem Rep.cut{n:Nat}:∀{d:D} {v:V},L3.below n d=true->Rep K H ι d v->Rep K H (ι.take n) d v
 | .non,_,_,h=>h|.bl _,_,_,h=>h|.int _,_,_,h=>h|.str _,_,_,h=>h
 | .tup ds,_,hb,h=>by obtain⟨a,vs,rfl,s,r⟩:=h.jr;exact Rep.tup s (Zt.cut (ds:=ds) hb r)|.aH ds,_,hb,h=>by obtain⟨a,vs,rfl,s,r⟩:=h.sZ;exact⟨a,vs,rfl,s,Zt.cut (ds:=ds) hb r⟩|.ref k,_,hb,h=>by obtain⟨a,q,rfl⟩:=h.d_;refine Rep.ref ?_;rw[xG (of_decide_eq_true hb)];exact q
theorem Zt.cut{n:Nat}:∀{ds:List D} {vs:List V},L3.eN n ds=true->Zt K H ι ds vs->Zt K H (ι.take n) ds vs
 |[],_,_,h=>h|d::ds,_,hb,h=>by obtain⟨v,ws,rfl,r,q⟩:=h.cons_inv;exact have w:=Yaj.mp (hb:(L3.below n d&&L3.eN n ds)=true);Zt.cons (Rep.cut (d:=d) w.1 r) (Zt.cut (ds:=ds) w.2 q)
end
theorem l_.below{a:Yq}(h:l_ K H ι m a):Aj ι.length m=true:=by
 cases m with
 |lst xs=>obtain⟨vs,_,r⟩:=h;exact r.eN|dct kvs=>obtain⟨ws,_,_,r⟩:=h;exact r.eN|cR kvs=>obtain⟨ws,_,_,r⟩:=h;exact r.eN|ins c fs=>
  rcases h with⟨_,_,gs,_,_,_,r⟩|⟨_,_,_,_,_,rfl|⟨_,_,_,_,_,_,r⟩⟩
  .exact r.eN
  .rfl
  .exact r.eN
theorem l_.cut{a:Yq}(hb:Aj n m=true)(h:l_ K H ι m a):l_ K H (ι.take n) m a:=by
 cases m with
 |lst xs=>obtain⟨vs,q,r⟩:=h;exact⟨vs,q,r.cut hb⟩|dct kvs=>obtain⟨ws,q,r1,r2⟩:=h;exact⟨ws,q,r1,r2.cut hb⟩|cR kvs=>obtain⟨ws,q,r1,r2⟩:=h;exact⟨ws,q,r1,r2.cut hb⟩|ins c fs=>
  rcases h with⟨C,dx,gs,q,c,r1,r2⟩|⟨C,dd,q,z,c,h|⟨dx,o,gs,e,f,r1,r2⟩⟩
  .exact .inl ⟨C,dx,gs,q,c,r1,r2.cut hb⟩
  .exact .inr ⟨C,dd,q,z,c,.inl h⟩
  .exact .inr ⟨C,dd,q,z,c,.inr ⟨dx,o,gs,e,f,r1,r2.cut hb⟩⟩
theorem aA.cut(S:aA K H ι M)(h:(M.take n).all (Aj n)=true):aA K H (ι.take n) (M.take n):=by
 refine⟨by simp[S.len],S.nd.sublist (VF _ _),λk m a h1 h2=>?_⟩;have hk:k<n:=by have:=(Yn.mp h1).1;rw[Y7]at this;exact Yz this (Nat.min_le_left _ _)
 have hb:Aj n m=true:=fB.mp h m (q8 h1);rw[xG hk]at h1 h2;exact(S.obj k m a h1 h2).cut hb
theorem QW(S:aA K H ι M)(x:Ext K H ι H' ι')(S':aA K H' ι' M')(r:Rep K H' ι' d v)(h:Zw K H ι Q (mV M d M')):Q v H':=by
 unfold mV at h;split at h
 .rename_i c;simp only[gQ,vD,decide_eq_true_eq]at c;have hall:(M'.take M.length).all (Aj M.length)=true:=by
   rcases c.2 with e|e
   .rw[e,fB];intro m hm;obtain⟨n,hn⟩:=zr hm;obtain⟨a,q,w⟩:=S.at hn;rw[←S.len];exact w.below
   .exact e
  refine h v H' (ι'.take M.length) ⟨x.tup,x.aH,λn a q=>?_,x.bJ⟩ (S'.cut hall) (r.cut c.1);rw[xG (by rw[←S.len];exact(Yn.mp q).1)];exact x.pre n a q
 .exact h v H' ι' x S' r
end
theorem bF.start(r:Zt K H ι ds vs)(n:Nat):bF K H ι (ds.map Ya++Yj n Ye) (vs.map Ya++Yj n Ye):=by
 refine⟨by simp[r.length],λi d h=>?_⟩;by_cases hi:i<ds.length
 .rw[Y6 (by simpa using hi),gO]at h;cases q:ds[i]? with
  |none=>rw[q]at h;simp at h|some d'=>rw[q]at h;simp at h;subst h;obtain⟨v,e,z⟩:=r.get q;refine⟨v,?_,z⟩;rw[Y6 (by simpa[r.length]using hi),gO,e];rfl
 .rw[xu (by simpa using hi),Hw]at h;split at h<;>simp at h
variable{ps:List aj}
section
variable {P:Y3} {w:aO} {K:Yb} {mg:aj->Option Yd} {base:aq}
theorem fn3{x qual:aj}{f:Yq}{fd:gM}{N:List aj}{k:Nat}(F:pF K x qual st f fd)(S:eU N ps (Zv st))(hb:∀(cdv:Yd) (A:bB) (outer:List cH) (s:Yf) (H:Hp) (E:XK),cL k (A.deeper (k_ qual (Zv st) s.heap.objs.size f cdv))->pR (nZ pD P w K mg base N qual (Zv st) f cdv A outer s H E).je (jx st) body):
  fC P w K mg base pD (k+1) f fd ps (yg K ps.length (dB ps.length N.length body)):=by
 refine F.ok S (λvs H Q E ⟨ι,M,ds,_,r,l,_⟩=>by rw[r.length,l]) λcdv A outer s H vs Q E hr ak=>?_;obtain⟨ι,M,ds,SR,r,l,h⟩:=ak;refine⟨_,hb cdv A outer s H E hr,ι,M,ds.map Ya++Yj (N.length-ps.length) Ye,SR,?_,?_⟩
 .have e:L2.start N vs=vs.map Ya++Yj (N.length-ps.length) Ye:=by unfold L2.start;rw[r.length,l]
  rw[e];exact bF.start r _
 .unfold dB at h;rw[if_pos l]at h;cases q:body (ds.map Ya++Yj (N.length-ps.length) Ye) M with
  |nx env' M'=>rw[q]at h;exactλσ' H' ι' x S' E'=>QW SR x S' Rep.non h|rt d M'=>rw[q]at h;exactλv H' ι' x S' r'=>QW SR x S' r' h|bk _ _=>rw[q]at h;exact h.elim|ct _ _=>rw[q]at h;exact h.elim
  |exc _ _=>rw[q]at h;exact h.elim|bad=>rw[q]at h;exact h.elim
def cA(P:Y3)(w:aO)(K:Yb)(mg:aj->Option Yd)(base:aq)(k:Nat)(x:aj)(ps:List aj)(F:F3):Prop:=(∀ds M,ds.length≠ps.length->F ds M= .bad)/\∃f fd,mg x=Ya (.ref f)/\wY K (.ref f)=true/\Binds K fd ps []/\fC P w K mg base pD k f fd ps (yg K ps.length F)
def dD(K:Yb)(mg:aj->Option Yd)(x:aj)(st:Yd2)(ps:List aj):Prop:=∃f fd,pF K x x st f fd/\mg x=Ya (.ref f)/\Binds K fd ps []
theorem cA.of{x:aj}{N:List aj}{k:Nat}(d:dD K mg x st ps)(S:eU N ps (Zv st))(hb:∀(f:Yq) (cdv:Yd) (A:bB) (outer:List cH) (s:Yf) (H:Hp) (E:XK),cL k (A.deeper (k_ x (Zv st) s.heap.objs.size f cdv))->pR (nZ pD P w K mg base N x (Zv st) f cdv A outer s H E).je (jx st) body):
  cA P w K mg base (k+1) x ps (dB ps.length N.length body):=by
 obtain⟨f,fd,F,m,bi⟩:=d;exact⟨λds M h=>if_neg h,f,fd,m,F.kp,bi,fn3 F S (hb f)⟩
end
section
variable {X:Cx} {e:Expr} {es:List Expr} {pos p:aY} {gl:cN} {x:aj} {k:Nat} {ps:List aj} {F:F3}
theorem iT(G:cA X.prog X.w X.K X.mg X.base k x ps F)(hr:cL k X.A)(ha:CA X (e::es) gl)(hg:Gl X x:=by rfl)(hdb:(x==("__debug__":aj))=false:=by decide)(he:Yp (e::es) X.env=(false,aF e X.env)::Yp es X.env:=by rfl)(hpl:(bN pos (Yp es X.env)).any (·.1)=false:=by rfl):C3 X (.Call (.Name x p) (e::es) [] pos) (aR F gl):=by
 obtain⟨hn,f,fd,m,kp,bi,ok⟩:=G;refine(ZpK ok hr hg m kp bi .nil Zuy ha hdb he hpl).imp λσ H Q ak=>?_;obtain⟨ι,M,env,S,E,h⟩:=ak;obtain⟨ds,M1,e1,h⟩:=Zw.bind h;refine⟨ι,M,env,S,E,?_⟩;rw[e1];intro vs H1 ι1 x1 S1 r1;have hl:ds.length=ps.length:=by refine OJ λq=>?_;rw[hn ds M1 q]at h;exact h.elim
 exact⟨ι1,M1,ds,S1,by rw[iJ];exact r1,hl,h.up x1⟩
end
def tGf(K:Yb)(g:G3):TG:=λv σ H Q=>∃ι M env d env',aA K H ι M/\bF K H ι env σ/\Rep K H ι d v/\g d env=Ya env'/\∀σ',bF K H ι env' σ'->Q σ' H
def tGs(K:Yb)(is:List Nat):ud:=λvs σ H Q=>∃ι M env ds env',aA K H ι M/\bF K H ι env σ/\Zt K H ι ds vs/\bindAll is ds env=Ya env'/\∀σ',bF K H ι env' σ'->Q σ' H
def CG(X:Cx)(tg:Expr)(g:G3):Prop:=PG X tg (tGf X.K g)
def JZ(X:Cx)(tg:List Expr)(is:List Nat):Prop:=rG X tg (tGs X.K is)
theorem PG.imp{t t':TG}(h:PG X e t)(i:∀v σ H Q,t' v σ H Q->t v σ H Q):PG X e t':=λpins s σ H v u Q I r q=>h pins s σ H v u Q I r (i v σ H Q q)
theorem rG.imp{e:List Expr}{t t':ud}(h:rG X e t)(i:∀v σ H Q,t' v σ H Q->t v σ H Q):rG X e t':=λpins s σ H v u Q I r q=>h pins s σ H v u Q I r (i v σ H Q q)
section
variable {X:Cx} {e:Expr} {es:List Expr} {pos:aY}
theorem Ay(i:Nat){x:aj}(hN:X.N.Nodup)(hi:X.N[i]?=Ya x:=by rfl)(hx:Loc X.env.scope x:=by first|exact Or.inl rfl|exact Or.inr rfl)(hf:X.fn x=true\/X.env.scope.names.lookup x=Ya .local:=by first|exact .inl rfl|exact .inr rfl):CG X (.Name x pos) (fO i):=PG.imp (YF hN hi hx hf) λv σ H Q ak=>by obtain⟨ι,M,env,d,env',S,E,r,q,h⟩:=ak;cases q;exact h _ (E.set i r)
theorem QX:JZ X [] []:=rG.imp Zqh λv σ H Q ak=>by
 obtain⟨ι,M,env,ds,env',S,E,r,q,h⟩:=ak;cases ds with
 |nil=>cases q;exact⟨r.nil_inv,h σ E⟩|cons d ds=>cases q
theorem Az(i:Nat){is:List Nat}{x:aj}(hN:X.N.Nodup)(ht:JZ X es is)(hi:X.N[i]?=Ya x:=by rfl)(hx:Loc X.env.scope x:=by first|exact Or.inl rfl|exact Or.inr rfl)(hf:X.fn x=true\/X.env.scope.names.lookup x=Ya .local:=by first|exact .inl rfl|exact .inr rfl)(hs:(qe (.Name x pos::es) X.env).map (·.2)=tL (.Name x pos) X.env::(qe es X.env).map (·.2):=by rfl):
  JZ X (.Name x pos::es) (i::is):=rG.imp (ZoY (YF hN hi hx hf) ht hs) λv σ H Q ak=>by
 obtain⟨ι,M,env,ds,env',S,E,r,q,h⟩:=ak;cases ds with
 |nil=>cases q|cons d ds=>obtain⟨v,ws,rfl,r1,r2⟩:=r.cons_inv;exact⟨v,ws,rfl,ι,M,env.set i (Ya d),ds,env',S,E.set i r1,r2,q,h⟩
theorem QZ{is:List Nat}{k:Nat}(hc:X.calm=true)(h:JZ X es is)(hl:es.length=is.length:=by rfl)(hn:(qe es X.env).length=is.length:=by rfl)(hst:(qe es X.env).findIdx? (·.1)=Ye:=by rfl):CG X (.Tuple es k pos) (ou is):=
 PG.imp (ZsC (n:=is.length) hc h hn hst) λv σ H Q ak=>by
  obtain⟨ι,M,env,d,env',S,E,r,q,h⟩:=ak;cases d with
  | tup ds=>
   obtain⟨a,vs,rfl,s,r⟩:=r.jr;have hlen:∀(is:List Nat) (ds:List D) (env env':Zu),bindAll is ds env=Ya env'->ds.length=is.length:=by
    intro is
    induction is with
    |nil=>intro ds env env' h;cases ds with|nil=>rfl|cons d ds=>cases h
    |cons i is ih=>intro ds env env' h;cases ds with|nil=>cases h|cons d ds=>simp[ih ds _ _ h]
   exact⟨a,vs,rfl,s,by rw[r.length];exact hlen _ _ _ _ q,ι,M,env,ds,env',S,E,r,q,h⟩
  |_=>cases q
end
def rY(K:Yb)(H:Hp)(ι:List Yq)(it:lK)(J:It):Prop:=∀(i:Nat) H2 ι2 M2,Ext K H ι H2 ι2->aA K H2 ι2 M2->locked it M2=true ->
 (∀d,it.items[i]?=Ya d->J.go i H2/\∀x H3,J.Jq i H2 x H3->H3=H2/\Rep K H2 ι2 d x)/\(i=it.items.length->J.stop i H2)
def A_(K:Yb)(H:Hp)(ι:List Yq)(R:It->Hp->Prop)(r:R3 lK):Prop:=match r with
 | .ok it M'=>∀J H' ι',Ext K H ι H' ι'->aA K H' ι' M'->rY K H' ι' it J->R J H'|_=>False
def Py(K:Yb)(g:I3):TI:=λσ H R=>∃ι M env,aA K H ι M/\bF K H ι env σ/\A_ K H ι R (g env M)
def CI(X:Cx)(tg e:Expr)(g:I3):Prop:=PI X tg e (Py X.K g)
theorem PI.imp{tg:Expr}{t t':TI}(h:PI X tg e t)(i:∀σ H Q,t' σ H Q->t σ H Q):PI X tg e t':=λpins s σ H Q I q=>h pins s σ H Q I (i σ H Q q)
theorem PI.or{tg:Expr}{t t':TI}(h:PI X tg e t)(h':PI X tg e t'):PI X tg e (λσ H R=>t σ H R\/t' σ H R):=λpins s σ H Q I q=>q.elim (h pins s σ H Q I) (h' pins s σ H Q I)
theorem A_.bind{Q:It->Hp->Prop}{r:R3 α}{k:α->Store->R3 lK}(h:A_ K H ι Q (r.bind k)):∃a M,r= .ok a M/\A_ K H ι Q (k a M):=by
 cases r with
 |ok a M=>exact⟨a,M,rfl,h⟩|exc x M=>exact h.elim|bad=>exact h.elim
section
variable {X:Cx} {tg e a b:Expr} {pos p:aY} {f g:E3}
theorem ZsW(h:C3 X e f)(hs:PI X tg e (λσ H R=>oA X.K f σ H λx H1=>∃z:aj,x= .str z/\z.length<=SZ/\∀J,(∀ι,rY X.K H1 ι ⟨z.cps.toList.map λc=>.str [c],Ye⟩ J)->R J H1)):CI X tg e (iK f):=
 PI.imp (PI.or (ZrX h) (PI.or (ZpZ h) hs)) λσ H R ak=>by
  obtain⟨ι,M,env,S,E,h⟩:=ak;obtain⟨d,M1,e1,h⟩:=A_.bind h;cases d with
  |tup ds=>refine .inl ⟨ι,M,env,S,E,?_⟩;rw[e1];intro v H1 ι1 x1 S1 r1;obtain⟨a,vs,rfl,s,r⟩:=r1.jr;refine⟨a,rfl,⟨vs,s⟩,h _ H1 ι1 x1 S1 ?_⟩;intro i H2 ι2 M2 x S2 _;refine⟨λd hd=>?_,λhl=>⟨vs,x.tup _ _ s,by rw[r.length,hl];exact Yt _⟩⟩;obtain⟨v,hv,rv⟩:=r.get hd;refine⟨⟨vs,v,x.tup _ _ s,hv⟩,λy H3 hy=>⟨hy.1,?_⟩⟩;have e:=hy.2 vs (x.tup _ _ s);rw[hv]at e;cases e;exact rv.mono x|aH ds=>refine .inr (.inl ⟨ι,M,env,S,E,?_⟩);rw[e1];intro v H1 ι1 x1 S1 r1;obtain⟨a,vs,rfl,s,r⟩:=r1.sZ;refine⟨a,rfl,⟨vs,s.sq⟩,h _ H1 ι1 x1 S1 ?_⟩;intro i H2 ι2 M2 x S2 _;refine⟨λd hd=>?_,λhl=>⟨vs,(x.aH _ _ s).sq,by rw[r.length,hl];exact Yt _⟩⟩;obtain⟨v,hv,rv⟩:=r.get hd;refine⟨⟨vs,v,(x.aH _ _ s).sq,hv⟩,λy H3 hy=>⟨hy.1,?_⟩⟩;have e:=hy.2 vs (x.aH _ _ s).sq;rw[hv]at e;cases e;exact rv.mono x|ref n=>
   refine .inr (.inl ⟨ι,M,env,S,E,?_⟩);rw[e1];intro v H1 ι1 x1 S1 r1;cases hm:M1[n]? with
   |none=>simp only[hm]at h;exact h.elim|some o=>
    cases o with
    |dct kvs=>simp only[hm]at h;exact h.elim|cR kvs=>simp only[hm]at h;exact h.elim|ins _ _=>simp only[hm]at h;exact h.elim|lst ds=>simp only[hm]at h;obtain⟨a,ha,rfl⟩:=r1.d_;obtain⟨vs,q,r⟩:=S1.obj n _ a hm ha;refine⟨a,rfl,⟨vs,bQ.of q⟩,h _ H1 ι1 x1 S1 ?_⟩;intro i H2 ι2 M2 x S2 lk;have wg:M2[n]?=Ya (.lst ds):=of_decide_eq_true lk;obtain⟨vs2,q2,r2⟩:=S2.obj n _ a wg (x.pre _ _ ha);refine⟨λd hd=>?_,λhl=>⟨vs2,bQ.of q2,by rw[r2.length,hl];exact Yt _⟩⟩;obtain⟨v,hv,rv⟩:=r2.get hd;refine⟨⟨vs2,v,bQ.of q2,hv⟩,λy H3 hy=>⟨hy.1,?_⟩⟩;have e:=hy.2 vs2 (bQ.of q2);rw[hv]at e;cases e;exact rv
  | str z=>
   refine .inr (.inr ⟨ι,M,env,S,E,?_⟩);rw[e1];intro v H1 ι1 x1 S1 r1;have hv:=r1.str_inv;subst hv;by_cases hz:z.length<=SZ
   .simp only[if_pos hz]at h;refine⟨_,rfl,by simpa[jW]using hz,λJ hJ=>h J H1 ι1 x1 S1 ?_⟩;simpa using hJ ι1
   .simp only[if_neg hz]at h;exact h.elim
  |non=>exact h.elim|bl b=>exact h.elim|int i=>exact h.elim
theorem Zoi(lo:Int)(n:Nat):rY K H ι ⟨j8 lo n,Ye⟩ (Js lo n):=by
 intro i H2 ι2 M2 x S _;refine⟨λd hd=>?_,λhl=>?_⟩
 .unfold j8 at hd;rw[gO]at hd;cases q:(kW n)[i]? with
  |none=>rw[q]at hd;cases hd|some k=>
   rw[q]at hd;obtain⟨hi,e⟩:=Yn.mp q;rw[VB]at e;subst e;have hd':D.int (lo+(i:Int))=d:=by simpa using hd
   subst hd';exact⟨(by show i<n;simpa using hi),λy H3 hy=>⟨hy.1,by rw[hy.2];exact Rep.int⟩⟩
 .show n<=i;rw[hl];simp[j8]
theorem ZhP(hm:X.mg "range" =Ye)(h:C3 X a f)(hg:Gl X "range":=by rfl)(hs:Yp [a] X.env=[(false,aF a X.env)]:=by rfl)(hs':Yp (a::[]) X.env=(false,aF a X.env)::Yp [] X.env:=by rfl):CI X tg (.Call (.Name "range" p) [a] [] pos) (xY f):=
 PI.imp (Zm2 hg hm (Zc h Zj hs') hs) λσ H R ak=>by
  obtain⟨ι,M,env,S,E,h⟩:=ak;obtain⟨d,M1,e1,h⟩:=A_.bind h;refine⟨ι,M,env,S,E,?_⟩;have e2:Za f Zf env M= .ok [d] M1:=by unfold Za;rw[e1];rfl
  rw[e2];intro vs H1 ι1 x1 S1 r1;obtain⟨v,ws,rfl,r,q⟩:=r1.cons_inv;have:=q.nil_inv;subst this;cases d with
  | int j=>
   have hv:=r.int_inv;subst hv;by_cases hj:j<=1000000/\ -1000000<=j
   .simp only[if_pos hj]at h;exact⟨j,rfl,by omega,by omega,h _ H1 ι1 x1 S1 (Zoi 0 j.toNat)⟩
   .simp only[if_neg hj]at h;exact h.elim
  |_=>exact h.elim
theorem Znw{iter:Expr}{body:List Yd2}{i:I3}{g:G3}{u:S3}(J0:X.xe=λ_ _=>False)(hc:X.calm=true)(hi:CI X tg iter i)(hg:CG X tg g)(hb:pR X body u)(hs:∀x,za iter X.env x=pure x:=by intro _;rfl):
  CS X (.For tg iter body [] pos) (v6 i g u):=(Ju (by rw[J0];exact Xi) hc hi hg hb hs).imp λD σ H ak=>by
 obtain⟨ι,M,env,S,E,h⟩:=ak;unfold v6 at h;cases q:i env M with
 |exc x M1=>rw[q]at h;exact h.elim|bad=>rw[q]at h;exact h.elim|ok it M1=>
  rw[q]at h;refine⟨ι,M,env,S,E,?_⟩;rw[q];intro J H1 ι1 x1 S1 ok;refine⟨λi m σ2 H2=>m=it.items.length-i/\i<=it.items.length/\∃ι2 M2 fW,Ext X.K H1 ι1 H2 ι2/\aA X.K H2 ι2 M2/\bF X.K H2 ι2 fW σ2/\m_ X.K H2 ι2 D (jz it g u (it.items.drop i) fW M2),
   ⟨_,rfl,jU _,ι1,M1,env,Ext.refl,S1,E.mono x1,m_.up x1 h⟩,?_⟩
  rintro i m σ2 H2 ⟨rfl,hi,ι2,M2,fW,x2,S2,E2,h2⟩;by_cases hlt:i<it.items.length
  .have hd:it.items[i]?=Ya it.items[i]:=by simp[hlt]
   rw[xF hlt]at h2
   first|rw[ut]at h2|rw[ur]at h2
   by_cases lk:locked it M2=true
   .rw[if_pos lk]at h2;obtain⟨go,yl⟩:=(ok i H2 ι2 M2 x2 S2 lk).1 _ hd;cases eg:g it.items[i] fW with
    |none=>rw[eg]at h2;exact h2.elim|some kJ=>
     rw[eg]at h2;refine .inr ⟨go,λσ' H'=>∃ι3 M3 i_,Ext X.K H2 ι2 H' ι3/\aA X.K H' ι3 M3/\bF X.K H' ι3 i_ σ'/\m_ X.K H' ι3 D (jz it g u (it.items.drop (i+1)) i_ M3),
      λσ' H' ⟨ι3,M3,i_,x3,S3,E3,h3⟩=>⟨it.items.length-(i+1),lD 2 0x30113c2012a1c0c21 T1 (nQ (lB 1 6991908881 T1 hlt)) (o_ _ _),rfl,hlt,ι3,M3,i_,x2.trans x3,S3,E3,h3⟩,λx H' hy=>?_⟩
     obtain⟨rfl,rx⟩:=yl x H' hy;refine⟨ι2,M2,fW,_,kJ,S2,E2,rx,eg,λσ' E'=>⟨ι2,M2,kJ,S2,E',?_⟩⟩;cases qu:u kJ M2 with
     |nx e' M'=>simp only[qu]at h2;exactλσ' H' ι' x' S' E'=>⟨ι',M',e',x',S',E',h2.up x'⟩|ct e' M'=>simp only[qu]at h2;exactλσ' H' ι' x' S' E'=>⟨ι',M',e',x',S',E',h2.up x'⟩|bk e' M'=>simp only[qu]at h2;exact h2|rt d M'=>simp only[qu]at h2;exact h2
     |exc x' M'=>simp only[qu]at h2;exact h2.elim|bad=>simp only[qu]at h2;exact h2.elim
   .rw[if_neg lk]at h2;exact h2.elim
  .have e0:i=it.items.length:=Y9 hi (jT hlt);subst e0;rw[Dj]at h2
   first|rw[ut]at h2|rw[ur]at h2
   by_cases lk:locked it M2=true
   .rw[if_pos lk]at h2;exact .inl ⟨(ok _ H2 ι2 M2 x2 S2 lk).2 rfl,h2 σ2 H2 ι2 Ext.refl S2 E2⟩
   .rw[if_neg lk]at h2;exact h2.elim
end
theorem Rep.AcX(r:Rep K H ι d v):decide (v=V.non)=decide (d=D.non):=by
 cases d with
 |non=>rw[r.jJ];rfl|bl b=>rw[r.g_];rfl|int i=>rw[r.int_inv];rfl|str x=>rw[r.str_inv];rfl
 |tup ds=>obtain⟨a,vs,e,_⟩:=r.jr;rw[e];rfl|aH ds=>obtain⟨a,vs,e,_⟩:=r.sZ;rw[e];rfl|ref n=>obtain⟨a,_,e⟩:=r.d_;rw[e];rfl
theorem ZgG{x y:List Nat}:decide (V.str ⟨x.toArray⟩=V.str ⟨y.toArray⟩)=(x==y):=by
 by_cases h:x=y
 .subst h;simp
 .rw[decide_eq_false (λe=>h (by injection e with e1;injection e1 with e2;simpa using congrArg zM e2))]
  exact(beq_eq_false_iff_ne.mpr h).symm
section
variable {X:Cx}
theorem Zok:bf X (ig .Add) (λx y H Q=>∃a b ys,x= .ref a/\y= .ref b/\cJ X.K H a []/\cJ X.K H b ys/\Q (.ref b) H):=by
 intro pins s σ H x y v u Q I rx ry h;obtain⟨a,b,ys,rfl,rfl,ha,hb,q⟩:=h;cases rx;cases ry;obtain⟨its,r1,p1,_⟩:=I.tuple ha;obtain⟨its2,r2,p2,_⟩:=I.tuple hb;cases r1;obtain⟨⟨cls,dd,data,sl⟩,ho,hc,n,hd⟩:=id p1;obtain⟨⟨cls2,dd2,data2,sl2⟩,ho2,hc2,n2,hd2⟩:=id p2;simp only at hc hd hc2 hd2;subst hc hd hc2 hd2;exact M7 ⟨_,ho,rfl⟩ ⟨_,ho2,rfl⟩ MP M6 Ot Oq (Oo _ _)
   (tuple_addW0 a b _ its2.toArray n n2 dd dd2 sl sl2 (by simp)) ⟨ho,ho2,⟨.ref b,H,I,rfl,q⟩⟩
theorem Zqx(x y:List Nat):(⟨x.toArray⟩:aj)++⟨y.toArray⟩=⟨(x++y).toArray⟩:=by show Str.append _ _=_;unfold Str.append;simp
noncomputable def J1(o:Option D)(f:D->R3 D):R3 D:=match o with
 |some d=>f d|none=>.bad
theorem Q0{o:Option D}{f:D->R3 D}(h:Zw K H ι Q (J1 o f)):∃x,o=Ya x/\Zw K H ι Q (f x):=by
 cases o with
 |none=>exact h.elim|some x=>exact⟨x,rfl,h⟩
noncomputable def onN(o:Option Nat)(f:Nat->R3 D):R3 D:=match o with
 |some d=>f d|none=>.bad
theorem Zp3{o:Option Nat}{f:Nat->R3 D}(h:Zw K H ι Q (onN o f)):∃x,o=Ya x/\Zw K H ι Q (f x):=by
 cases o with
 |none=>exact h.elim|some x=>exact⟨x,rfl,h⟩
noncomputable def Q3(o:Option MO)(f:List D->R3 D):R3 D:=match o with
 |some (.lst x)=>f x|_=>.bad
theorem Zli{o:Option MO}{f:List D->R3 D}(h:Zw K H ι Q (Q3 o f)):∃x,o=Ya (.lst x)/\Zw K H ι Q (f x):=by
 cases o with
 |none=>exact h.elim|some o=>cases o with
  |lst x=>exact⟨x,rfl,h⟩|_=>exact h.elim
noncomputable def Zt9(a b:Option MO)(f:List D->List D->R3 D):R3 D:=match a,b with
 |some (.lst x),Ya (.lst y)=>f x y|_,_=>.bad
theorem ZoJ{a b:Option MO}{f:List D->List D->R3 D}(h:Zw K H ι Q (Zt9 a b f)):∃x y,a=Ya (.lst x)/\b=Ya (.lst y)/\Zw K H ι Q (f x y):=by
 cases a with
 |none=>exact h.elim|some a=>cases a with
  | lst x=>cases b with
   |none=>exact h.elim|some b=>cases b with
    |lst y=>exact⟨x,y,rfl,rfl,h⟩|_=>exact h.elim
  |_=>exact h.elim
theorem yh{c:Prop}{_:Decidable c}(h:Zw K H ι Q (if c then r else .bad)):c/\Zw K H ι Q r:=by
 by_cases hc:c
 .rw[if_pos hc]at h;exact⟨hc,h⟩
 .rw[if_neg hc]at h;exact h.elim
theorem ZjA(r:Zt K H ι ds []):ds=[]:=Dh r.length.symm
theorem bw:bf X (ig .Add) (r2 X.K Zk):=bf.imp (bf.or Zsc (bf.or Zkt (bf.or Zsa (bf.or ZpO Zok)))) λx y H Q ak=>by
 obtain⟨ι,M,a,b,S,ra,rb,h⟩:=ak;cases a with
 |int i=>cases b with
  |int j=>exact .inl ⟨i,j,ra.int_inv,rb.int_inv,Zw.ok h S Rep.int⟩|_=>exact h.elim
 | str x=>cases b with
  |str y=>obtain⟨hz,h⟩:=yh h;exact .inr (.inl ⟨_,_,ra.str_inv,rb.str_inv,Ym hz lY,by rw[Zqx];exact Zw.ok h S Rep.str⟩)|_=>exact h.elim
 | tup x=>cases b with
  | tup y=>
   obtain⟨hz,h⟩:=yh h;obtain⟨p,vs,e,s,r⟩:=ra.jr;obtain⟨q,ws,e',s',r'⟩:=rb.jr;by_cases hv:vs=[]
   .rw[hv]at r s;rw[ZjA r]at h;exact .inr (.inr (.inr (.inr ⟨p,q,ws,e,e',s,s',Zw.ok h S (Rep.tup s' r')⟩)))
   .refine .inr (.inr (.inr (.inl ⟨p,q,vs,ws,e,e',s,s',hv,by rw[r.length,r'.length];exact Ym hz lY,λhw=>?_,λhw p' hp=>?_⟩)))
    .rw[hw]at r';rw[ZjA r',iJ]at h;exact Zw.ok h S (Rep.tup s r)
    .obtain⟨x2,S2,r2⟩:=S.wV hp (r.append r');exact h _ _ _ x2 S2 r2
  |_=>exact h.elim
 | ref n=>cases b with
  |ref m=>have h:Zw X.K H ι Q (Zt9 M[n]? M[m]? λx y=>@ite _ (x.length+y.length<=SZ) (Ys _) (alloc (.lst (x++y)) M) .bad):=h;obtain⟨x,y,hn,hm,h⟩:=ZoJ h;obtain⟨hz,h⟩:=yh h;obtain⟨p,hp,e⟩:=ra.d_;obtain⟨q,hq,e'⟩:=rb.d_;obtain⟨vs,e1,r1⟩:=S.obj n _ p hn hp;obtain⟨ws,e2,r2⟩:=S.obj m _ q hm hq;refine .inr (.inr (.inl ⟨p,q,vs,ws,e,e',e1,e2,by rw[r1.length,r2.length];exact Ym hz lY,λp' hp'=>?_⟩));obtain⟨x2,S2,r3⟩:=S.lst hp' (r1.append r2);exact h _ _ _ x2 S2 r3|_=>exact h.elim
 |_=>cases b<;>exact h.elim
theorem Ba:bf X (ig .Sub) (r2 X.K dY):=bf.imp Zrm λx y H Q ak=>by obtain⟨ι,M,a,b,S,ra,rb,h⟩:=ak;cases a<;>cases b<;>first|exact h.elim|exact⟨_,_,ra.int_inv,rb.int_inv,Zw.ok h S Rep.int⟩
theorem cU:bf X (ig .Mod) (r2 X.K aQ):=bf.imp Zrw λx y H Q ak=>by
 obtain⟨ι,M,a,b,S,ra,rb,h⟩:=ak;cases a with
 | int i=>cases b with
  | int j=>
   simp only[Zji]at h;split at h
   .rename_i hj;exact⟨i,j,ra.int_inv,rb.int_inv,hj,Zw.ok h S Rep.int⟩
   .exact h.elim
  |_=>exact h.elim
 |_=>cases b<;>exact h.elim
theorem iU:bf X (ig .FloorDiv) (r2 X.K bD):=bf.imp Zqw λx y H Q ak=>by
 obtain⟨ι,M,a,b,S,ra,rb,h⟩:=ak;cases a with
 | int i=>cases b with
  | int j=>
   simp only[Zh3]at h;split at h
   .rename_i hj;exact⟨i,j,ra.int_inv,rb.int_inv,hj,Zw.ok h S Rep.int⟩
   .exact h.elim
  |_=>exact h.elim
 |_=>cases b<;>exact h.elim
theorem Q4:bf X (ig .Pow) (r2 X.K vW):=bf.imp ZsK λx y H Q ak=>by
 obtain⟨ι,M,a,b,S,ra,rb,h⟩:=ak;cases a with
 | int i=>cases b with
  | int j=>
   simp only[ZjK]at h;split at h
   .rename_i hj;exact⟨i,j,ra.int_inv,rb.int_inv,⟨hj.1,iN [] [_] 1 0xf42405b083e83b081 T1 hj.2.1,by have:=hj.2.2;omega⟩,Zw.ok h S Rep.int⟩
   .exact h.elim
  |_=>exact h.elim
 |_=>cases b<;>exact h.elim
theorem Bb:ug X (Ht .USub) (r1 X.K pG):=ug.imp ZrT λx H Q ak=>by
 obtain⟨ι,M,a,S,ra,h⟩:=ak;cases a with
 |int i=>exact⟨i,ra.int_inv,Zw.ok h S Rep.int⟩|_=>exact h.elim
theorem Q5:bf X (gK .Lt) (r2 X.K qy):=bf.imp ZuX λx y H Q ak=>by obtain⟨ι,M,a,b,S,ra,rb,h⟩:=ak;cases a<;>cases b<;>first|exact h.elim|exact⟨_,_,ra.int_inv,rb.int_inv,Zw.ok h S Rep.bl⟩
theorem yj:bf X (gK .Gt) (r2 X.K eX):=bf.imp Zuh λx y H Q ak=>by obtain⟨ι,M,a,b,S,ra,rb,h⟩:=ak;cases a<;>cases b<;>first|exact h.elim|exact⟨_,_,ra.int_inv,rb.int_inv,Zw.ok h S Rep.bl⟩
theorem Zwl:bf X (gK .GtE) (r2 X.K Qq):=bf.imp Zus λx y H Q ak=>by obtain⟨ι,M,a,b,S,ra,rb,h⟩:=ak;cases a<;>cases b<;>first|exact h.elim|exact⟨_,_,ra.int_inv,rb.int_inv,Zw.ok h S Rep.bl⟩
theorem Q6:bf X (gK .Is) (r2 X.K pH):=bf.imp Zrc λx y H Q ak=>by
 obtain⟨ι,M,a,b,S,ra,rb,h⟩:=ak;cases b with
 |non=>exact⟨rb.jJ,by rw[ra.AcX];exact Zw.ok h S Rep.bl⟩|_=>exact h.elim
end
theorem units_in1(A:bB):A.in1.units=A.units+1:=rfl
variable{es:List D}{A:bB}
section
variable {X:Cx} {pins:List (Yq×aB)} {σ:St} {H:Hp} {s:Yf} {ι:List Yq}
theorem Zi6{e:Nat->Bool}:∀{x y:List D},x.length=y.length->(∀(j:Nat) a b,x[j]?=Ya a->y[j]?=Ya b->e j=fD a b)->(kW x.length).all e=gU x y:=by
 intro x
 induction x generalizing e with
 |nil=>intro y h _;cases y with|nil=>rfl|cons _ _=>simp at h
 | cons a x ih=>
  intro y h he;cases y with
  |nil=>simp at h|cons b y=>rw[Yo,Vq,o7,HF,he 0 a b rfl rfl];rw[Qn];congr 1;exact ih (e:=e ∘ Nat.succ) (by simpa using h) λj a' b' h1 h2=>he (j+1) a' b' (by simpa using h1) (by simpa using h2)
theorem Zj0:∀{x y:List D},gU x y=true->x.length=y.length
 |[],[],_=>rfl|[],_::_,h=>ft h|_::_,[],h=>ft h|a::x,b::y,h=>congrArg Nat.succ (Zj0 (Yaj.mp (h:(fD a b&&gU x y)=true)).2)
theorem J2(h:cM 0 d=true):eY d=true:=by cases d<;>first|exact rfl|exact h
theorem Bc(h:cM (n+1) d=true):eY d=true\/∃ds,d= .tup ds:=by
 cases d with
 |tup ds=>exact .inr ⟨ds,rfl⟩|aH _=>exact ft h|ref _=>exact ft h|_=>exact .inl rfl
theorem Zid{a b:D}(fa:eY a=true)(fb:eY b=true)(r:Rep K H ι a v)(q:Rep K H ι b v):fD a b=true:=by
 cases a with
 |non=>have e:=r.jJ;cases b with
  |non=>rfl|bl _=>cases e.symm.trans q.g_|int _=>cases e.symm.trans q.int_inv|str _=>cases e.symm.trans q.str_inv
  |_=>exact ft fb
 |bl x=>have e:=r.g_;cases b with
  |non=>cases e.symm.trans q.jJ|bl _=>exact beq_iff_eq.mpr (V.bl.inj (e.symm.trans q.g_))|int _=>cases e.symm.trans q.int_inv|str _=>cases e.symm.trans q.str_inv
  |_=>exact ft fb
 |int x=>have e:=r.int_inv;cases b with
  |non=>cases e.symm.trans q.jJ|bl _=>cases e.symm.trans q.g_|int _=>exact beq_iff_eq.mpr (V.int.inj (e.symm.trans q.int_inv))|str _=>cases e.symm.trans q.str_inv
  |_=>exact ft fb
 |str x=>have e:=r.str_inv;cases b with
  |non=>cases e.symm.trans q.jJ|bl _=>cases e.symm.trans q.g_|int _=>cases e.symm.trans q.int_inv|str _=>exact ZgG.symm.trans (decide_eq_true (e.symm.trans q.str_inv))
  |_=>exact ft fb
 |_=>exact ft fa
theorem ZjB{a:D}{p:Yq}(fa:eY a=true)(r:Rep K H ι a v)(e:v= .ref p):False:=by
 cases a with
 |non=>cases e.symm.trans r.jJ|bl x=>cases e.symm.trans r.g_|int x=>cases e.symm.trans r.int_inv|str x=>cases e.symm.trans r.str_inv
 |_=>exact ft fa
theorem Rep.fun1(I:Inv X pins σ H s):∀(n:Nat) (a b:D) (v:V),cM n a=true->cM n b=true->Rep X.K H ι a v->Rep X.K H ι b v->fD a b=true:=by
 intro n
 induction n with
 |zero=>intro a b v ha hb r q;exact Zid (J2 ha) (J2 hb) r q|succ n ih=>
  intro a b v ha hb r q;rcases Bc ha with fa|⟨ds,ea⟩
  .rcases Bc hb with fb|⟨es,eb⟩
   .exact Zid fa fb r q
   .rw[eb]at q;obtain⟨p,vs,e,_⟩:=q.jr;exact(ZjB fa r e).elim
  .rw [ea]at r ha ⊢;obtain⟨p,vs,e,s1,r1⟩:=r.jr;rcases Bc hb with fb|⟨es,eb⟩
   .exact(ZjB fb q e).elim
   .rw[eb]at q hb ⊢;obtain⟨p',ws,e',s2,r2⟩:=q.jr;rw[←V.ref.inj (e.symm.trans e')]at s2;rw[←I.Mg s1 s2]at r2;clear s1 s2 e e' q r eb ea;rw[Zq7];revert ha hb r1 r2
    induction ds generalizing es vs with
    |nil=>
     intro _ r1 _ r2;cases es with
     |nil=>rfl|cons _ _=>obtain⟨_,_,e,_⟩:=r2.cons_inv;cases r1.nil_inv.symm.trans e
    | cons d ds ih2=>
     intro h1 r1 h2 r2;obtain⟨v,ws,e,q1,q2⟩:=r1.cons_inv;cases es with
     |nil=>cases r2.nil_inv.symm.trans e|cons e' es=>obtain⟨v',ws',z,q3,q4⟩:=r2.cons_inv;obtain⟨z1,z2⟩:=qt (z.symm.trans e);rw[z1]at q3;rw[z2]at q4;have g1:=Yaj.mp (h1:(cM n d&&ds.all (cM n))=true);have g2:=Yaj.mp (h2:(cM n e'&&es.all (cM n))=true);rw[Qn,ih d e' v g1.1 g2.1 q1 q3];exact ih2 ws es g1.2 q2 g2.2 q4
theorem Bd{x:V}(r:Rep K H ι .non x)(e:RelV x u):u= .none:=by rw[r.jJ]at e;cases e;rfl
theorem wj{b:Bool}{x:V}(r:Rep K H ι (.bl b) x)(e:RelV x u):u= .bool b:=by rw[r.g_]at e;cases e;rfl
theorem wk{i:Int}{x:V}(r:Rep K H ι (.int i) x)(e:RelV x u):∃t,u= .int i t:=by rw[r.int_inv]at e;exact e
theorem wu{i:List Nat}{x:V}(r:Rep K H ι (.str i) x)(e:RelV x u):∃t,u= .str ⟨i.toArray⟩ t:=by rw[r.str_inv]at e;exact e
inductive Q7(X:Cx)(H:Hp)(ι:List Yq)(T:Yq->Array Yd->Prop)(ds:List D)(x:V)(u:Yd):Prop
 |mk (p:Yq) (vs:List V) (its:List Yd):x= .ref p->u= .ref p->T p its.toArray->Zt X.K H ι ds vs->Vals vs its->Q7 X H ι T ds x u
theorem Be(I:Inv X pins σ H s){x:V}(r:Rep X.K H ι (.tup ds) x)(e:RelV x u):Q7 X H ι s.heap.IsTuple ds x u:=by obtain⟨p,vs,ex,s1,r1⟩:=r.jr;obtain⟨its,rvs,ht,_⟩:=I.tuple s1;rw[ex]at e;exact⟨p,vs,its,ex,e,ht,r1,rvs⟩
theorem P0{i k:List Nat}:decide (i=k)=((⟨i.toArray⟩:aj)==⟨k.toArray⟩):=by
 rw[←Ig,←ZgG];by_cases h:(⟨i.toArray⟩:aj)=⟨k.toArray⟩
 .rw[h,beq_self_eq_true];exact decide_eq_true rfl
 .rw[beq_eq_false_iff_ne.mpr h];exact decide_eq_false λe=>h (V.str.inj e)
theorem ZpW{i k:List Nat}:fD (.str i) (.str k)=((⟨i.toArray⟩:aj)==⟨k.toArray⟩):=vJ (show(i==k)=decide (i=k)from Ig i k) P0
theorem ZhR(A:bB)(a b:D)(x y:V)(u v:Yd)(ha:eY a=true)(hb:eY b=true)(ra:Rep X.K H ι a x)(rb:Rep X.K H ι b y)(ru:RelV x u)(rv:RelV y v):vI A s u v (fD a b):=by
 cases a with
 |non=>rw[Bd ra ru];cases b with
  |non=>rw[Bd rb rv];exact O6 _|bl k=>rw[wj rb rv];exact W6 _|int k=>obtain⟨t,e⟩:=wk rb rv;rw[e];exact W9 _ _|str k=>obtain⟨t,e⟩:=wu rb rv;rw[e];exact W_ _ _
  |_=>exact ft hb
 |bl i=>rw[wj ra ru];cases b with
  |non=>rw[Bd rb rv];exact W7 _|bl k=>rw[wj rb rv];exact W8 _ _|int k=>obtain⟨t,e⟩:=wk rb rv;rw[e];exact Xa _ _ _|str k=>obtain⟨t,e⟩:=wu rb rv;rw[e];exact Xb _ _ _
  |_=>exact ft hb
 |int i=>obtain⟨t0,e0⟩:=wk ra ru;rw[e0];cases b with
  |non=>rw[Bd rb rv];exact Xc _ _|bl k=>rw[wj rb rv];exact Xd _ _ _|int k=>obtain⟨t,e⟩:=wk rb rv;rw[e];exact Xg _ _ _ _|str k=>obtain⟨t,e⟩:=wu rb rv;rw[e];exact O4 _ _ _ _
  |_=>exact ft hb
 |str i=>obtain⟨t0,e0⟩:=wu ra ru;rw[e0];cases b with
  |non=>rw[Bd rb rv];exact Xe _ _|bl k=>rw[wj rb rv];exact Xf _ _ _|int k=>obtain⟨t,e⟩:=wk rb rv;rw[e];exact O5 _ _ _ _|str k=>obtain⟨t,e⟩:=wu rb rv;rw[e,ZpW];exact Xh _ _ _ _
  |_=>exact ft hb
 |_=>exact ft ha
noncomputable def Fe(ds es:List D)(j:Nat):Bool:=match ds[j]?,es[j]? with|some a,Ya b=>fD a b|_,_=>false
theorem ZlW(hl:ds.length≠es.length):gU ds es=false:=by
 cases q:gU ds es with
 |false=>rfl|true=>exact absurd (Zj0 q) hl
theorem Zl6(hn:n=ds.length)(hl:ds.length=es.length):(kW n).all (Fe ds es)=gU ds es:=by rw[hn];exact Zi6 hl λj a b h1 h2=>by unfold Fe;rw[h1,h2]
theorem ZlH{m:Nat}(hn:n=ds.length)(hm:m=es.length):((kW (dm n m)).all (Fe ds es)&&n==m)=gU ds es:=by
 by_cases hl:ds.length=es.length
 .have e:n=m:=hn.trans (hl.trans hm.symm);rw[←e,Nat.min_self,beq_self_eq_true,Bool.and_true];exact Zl6 hn hl
 .rw[ZlW hl,beq_eq_false_iff_ne.mpr λe=>hl (hn.symm.trans (e.trans hm)),Du]
theorem qM{its:List Yd}(r:Zt X.K H ι ds vs)(v:Vals vs its):its.toArray.size=ds.length:=Yl.trans (v.length.symm.trans r.length)
theorem Q8{ws:List V}{its its2:List Yd}(ih:∀(a b:D) (x y:V) (u v:Yd),cM n a=true->cM n b=true->Rep X.K H ι a x->Rep X.K H ι b y->RelV x u->RelV y v->vI A s u v (fD a b))(p1:ds.all (cM n)=true)(p2:es.all (cM n)=true)(r1:Zt X.K H ι ds vs)(r2:Zt X.K H ι es ws)(v1:Vals vs its)(v2:Vals ws its2)(j:Nat)(h1:j<its.toArray.size)(h2:j<its2.toArray.size):vI A s its.toArray[j] its2.toArray[j] (Fe ds es j):=by
 have k1:j<ds.length:=by rw[←qM r1 v1];exact h1
 have k2:j<es.length:=by rw[←qM r2 v2];exact h2
 have q1:=Y2 k1;have q2:=Y2 k2;obtain⟨x,g1,z1⟩:=r1.get q1;obtain⟨y,g2,z2⟩:=r2.get q2;obtain⟨u,e1,l1⟩:=v1.get g1;obtain⟨v,e2,l2⟩:=v2.get g2;unfold Fe;rw[q1,q2];obtain⟨_,e1⟩:=Yn.mp e1;obtain⟨_,e2⟩:=Yn.mp e2;exact ih _ _ x y _ _ (fB.mp p1 _ (o5 k1)) (fB.mp p2 _ (o5 k2)) z1 z2 (e1▸l1) (e2▸l2)
theorem Zje(A:bB)(hu1:A.units<iH){a:D}{x:V}{p:Yq}{its:Array Yd}(ha:eY a=true)(ra:Rep X.K H ι a x)(ru:RelV x u)(it:s.heap.IsTuple p its):vI A s u (.ref p) (fD a (.tup es))/\vI A s (.ref p) u (fD (.tup es) a):=by
 cases a with
 |non=>rw[Bd ra ru];exact⟨SeqAt.EqAt.none_tuple it hu1,SeqAt.EqAt.tuple_none it hu1⟩|bl k=>rw[wj ra ru];exact⟨SeqAt.EqAt.bool_tuple _ it hu1,SeqAt.EqAt.tuple_bool _ it hu1⟩|int k=>obtain⟨t,e⟩:=wk ra ru;rw[e];exact⟨SeqAt.EqAt.int_tuple _ _ it hu1,SeqAt.EqAt.tuple_int _ _ it hu1⟩|str k=>obtain⟨t,e⟩:=wu ra ru;rw[e];exact⟨SeqAt.EqAt.str_tuple _ _ it hu1,SeqAt.EqAt.tuple_str _ _ it hu1⟩
 |_=>exact ft ha
theorem ZnZ(I:Inv X pins σ H s):∀(n:Nat) (A:bB) (_:A.units+n+1<iH) (a b:D) (x y:V) (u v:Yd),cM n a=true->cM n b=true->Rep X.K H ι a x->Rep X.K H ι b y->RelV x u->RelV y v->vI A s u v (fD a b):=by
 intro n
 induction n with
 |zero=>intro A hu a b x y u v ha hb ra rb ru rv;exact ZhR A a b x y u v (J2 ha) (J2 hb) ra rb ru rv|succ n ih=>
  intro A hu a b x y u v ha hb ra rb ru rv;have hu0:A.units+0+1<iH:=lC 1 0x2ae0cc12aa1c0cc11 T1 hu;have hu1:A.units<iH:=lB 1 1104257534993 T1 hu0;rcases Bc ha with fa|⟨ds,ea⟩
  .rcases Bc hb with fb|⟨es,eb⟩
   .exact ZhR A a b x y u v fa fb ra rb ru rv
   .rw[eb]at rb ⊢;obtain⟨p,vs,its,ex,eu,t,_⟩:=Be I rb rv;rw[eu];exact(Zje A hu1 fa ra ru t).1
  .rw[ea]at ra ha ⊢;obtain⟨p,vs,its,ex,eu,t,r1,v1⟩:=Be I ra ru;rw[eu];rcases Bc hb with fb|⟨es,eb⟩
   .exact(Zje A hu1 fb rb rv t).2
   .rw[eb]at rb hb ⊢;obtain⟨q,ws,its2,ey,ev,t',r2,v2⟩:=Be I rb rv;rw[ev];by_cases hp:p=q
    .rw[ey,←hp,←ex]at rb;rw[Rep.fun1 I (n+1) _ _ _ ha hb ra rb,hp];exact O6 _
    .refine SeqAt.EqAt.of_refs hp ?_;rw[Zq7,←ZlH (qM r1 v1) (qM r2 v2)];exact Xm t t' hu1 (Q8 (ih A.in1 (by rw[units_in1];exact lC 1 0x2a1a0ccc12aa1c0cc11 T1 hu)) ha hb r1 r2 v1 v2)
end
section
variable {X:Cx}
section
variable {pins:List (Yq×aB)} {σ:St} {H:Hp} {s:Yf} {ι:List Yq}
theorem ZqK(I:Inv X pins σ H s)(S:aA X.K H ι M){x:V}(h:M[n]?=Ya (.lst ds))(r:Rep X.K H ι (.ref n) x)(e:RelV x u):Q7 X H ι s.heap.IsList ds x u:=by obtain⟨p,hp1,ex⟩:=r.d_;obtain⟨vs,e1,r1⟩:=S.obj n _ p h hp1;obtain⟨its,rvs,pl1,_⟩:=I.list (bQ.of e1);rw[ex]at e;exact⟨p,vs,its,ex,e,pl1.isList,r1,rvs⟩
inductive yo(M:Store)(a b:D)(k:Bool):Prop
 |ref {n m:Nat} (ds es:List D):a= .ref n->b= .ref m->gU ds es=k->M[n]?=Ya (.lst ds)->M[m]?=Ya (.lst es)->ds.all (cM DEEP)=true/\es.all (cM DEEP)=true->yo M a b k
 |int (i j:Int):a= .int i->b= .int j->decide (i=j)=k->yo M a b k
 |str (i j:List Nat):a= .str i->b= .str j->decide (i=j)=k->yo M a b k
 |bl (i j:Bool):a= .bl i->b= .bl j->decide (i=j)=k->yo M a b k
 |tup {ds es:List D}:a= .tup ds->b= .tup es->gU ds es=k->ds.all (cM DEEP)=true/\es.all (cM DEEP)=true->yo M a b k
theorem Q9{c d:Bool}{a k:α}(h:(if c&&d then Ya a else Ye)=Ya k):a=k/\c=true/\d=true:=by
 cases c with
 |false=>exact iu h|true=>cases d with
  |false=>exact iu h|true=>exact⟨eE h,rfl,rfl⟩
noncomputable def ZvM(a b:Option MO):Option Bool:=match a,b with
 |some (.lst x),Ya (.lst y)=>if x.all (cM DEEP)&&y.all (cM DEEP)then Ya (gU x y)else Ye|_,_=>Ye
theorem ZpX{m:Nat}{k:Bool}(h:ZvM M[n]? M[m]?=Ya k):yo M (.ref n) (.ref m) k:=by
 cases e1:M[n]? with
 |none=>rw[e1]at h;exact iu h|some o=>cases o with
  | lst x=>cases e2:M[m]? with
   |none=>rw[e1,e2]at h;exact iu h|some o=>cases o with
    |lst y=>rw[e1,e2]at h;exact have w:=Q9 h;.ref x y rfl rfl w.1 e1 e2 w.2|_=>rw[e1,e2]at h;exact iu h
  |_=>rw[e1]at h;exact iu h
theorem eqK{a b:D}{k:Bool}(h:qz a b M=Ya k):yo M a b k:=by
 cases a with
 |ref n=>cases b with
  |ref m=>exact ZpX h|_=>exact iu h
 |int i=>cases b with
  |int j=>exact .int i j rfl rfl (eE h)|_=>exact iu h
 |str i=>cases b with
  |str j=>exact .str i j rfl rfl (eE h)|_=>exact iu h
 |bl i=>cases b with
  |bl j=>exact .bl i j rfl rfl (eE h)|_=>exact iu h
 |tup ds=>cases b with
  |tup es=>exact have w:=Q9 h;.tup rfl rfl w.1 w.2|_=>exact iu h
 |_=>cases b<;>exact iu h
theorem Zl7{a b:D}{x y:V}{v:Yd}{k:Bool}(hu:X.A.units+80<iH)(I:Inv X pins σ H s)(S:aA X.K H ι M)(ra:Rep X.K H ι a x)(rb:Rep X.K H ι b y)(ru:RelV x u)(rv:RelV y v)(h:qz a b M=Ya k):SeqAt.RcAt X.A s u v k/\SeqAt.RcNeAt X.A s u v (!k):=by
 have hu1:X.A.units<iH:=lB 1 17666545486865 T1 hu;have hu2:X.A.in1.units+DEEP+1<iH:=by rw[units_in1];exact(show X.A.units+1+60+1<iH from lB 1 0x1a3c2ba0ccc11502b0c11 T1 hu)
 rcases eqK h with⟨ds,es,ea,eb,ek,e1,e2,p1,p2⟩|⟨i,j,ea,eb,ek⟩|⟨i,j,ea,eb,ek⟩|⟨i,j,ea,eb,ek⟩|⟨ea,eb,ek,p1,p2⟩
 .rw[ea]at ra;rw[eb]at rb;rw[←ek];obtain⟨p,vs,its,_,eu,t,r1,v1⟩:=ZqK I S e1 ra ru;obtain⟨q,ws,its2,_,ev,t',r2,v2⟩:=ZqK I S e2 rb rv;rw[eu,ev];by_cases hl:ds.length=es.length
  .rw[←Zl6 (qM r1 v1) hl];have hz:=(qM r1 v1).trans (hl.trans (qM r2 v2).symm);have w:=Q8 (ZnZ I DEEP X.A.in1 hu2) p1 p2 r1 r2 v1 v2;exact⟨SeqAt.RcAt.lists t t' hz hu1 w,SeqAt.RcNeAt.lists t t' hz hu1 w⟩
  .rw[ZlW hl];have hz:(its.toArray.size !=its2.toArray.size)=true:=bne_iff_ne.mpr λe=>hl ((qM r1 v1).symm.trans (e.trans (qM r2 v2)));exact⟨SeqAt.RcAt.lists_lengths t t' hz hu1,SeqAt.RcNeAt.lists_lengths t t' hz hu1⟩
 .rw[ea]at ra;rw[eb]at rb;obtain⟨t,e⟩:=wk ra ru;obtain⟨t',e'⟩:=wk rb rv;rw[e,e',←ek,←Ig];exact⟨SeqAt.RcAt.int_int _ _ _ _,SeqAt.RcNeAt.int_int _ _ _ _⟩
 .rw[ea]at ra;rw[eb]at rb;obtain⟨t,e⟩:=wu ra ru;obtain⟨t',e'⟩:=wu rb rv;rw[e,e',←ek,P0];exact⟨SeqAt.RcAt.str_str _ _ _ _,SeqAt.RcNeAt.str_str _ _ _ _⟩
 .rw[ea]at ra;rw[eb]at rb;rw[wj ra ru,wj rb rv,←ek,←Ig];exact⟨SeqAt.RcAt.bool_bool _ _,SeqAt.RcNeAt.bool_bool _ _⟩
 .rw[ea]at ra;rw[eb]at rb;obtain⟨p,vs,its,_,eu,t,r1,v1⟩:=Be I ra ru;obtain⟨q,ws,its2,_,ev,t',r2,v2⟩:=Be I rb rv;rw[eu,ev,←ek,←ZlH (qM r1 v1) (qM r2 v2)];have w:=Q8 (ZnZ I DEEP X.A.in1 hu2) p1 p2 r1 r2 v1 v2;exact⟨Xm t t' hu1 w,SeqAt.RcNeAt.tuples t t' hu1 w⟩
end
theorem fP(hu:X.A.units+80<iH):bf X (gK .Eq) (r2 X.K bh):=by
 intro pins s σ H x y v u Q I rx ry h;obtain⟨ι,M,a,b,S,ra,rb,h⟩:=h;unfold bh at h;cases q:qz a b M with
 |none=>rw[q]at h;exact h.elim|some k=>rw[q]at h;exact(Zl7 hu I S ra rb rx ry q).1 X.prog X.w X.xe _ ⟨.bl k,H,I,rfl,Zw.ok h S Rep.bl⟩
theorem Q_{i:Int}(r:Zt K H ι ds vs)(h:dM ds i=Ya d):∃v,xT vs i=Ya v/\Rep K H ι d v:=by
 unfold dM at h;unfold xT;have e:zX vs.length i=jE ds.length i:=by rw[r.length];rfl
 rw[e];cases q:jE ds.length i with
 |none=>rw[q]at h;cases h|some j=>rw[q]at h;exact r.get h
theorem eG:lG X (r2 X.K aM):=lG.imp ZsO λx y H Q ak=>by
 obtain⟨ι,M,a,b,S,ra,rb,h⟩:=ak;cases a with
 | tup ds=>cases b with
  |int i=>have h:Zw X.K H ι Q (J1 (dM ds i) (λd=>.ok d M)):=h;obtain⟨d,q,h⟩:=Q0 h;obtain⟨p,vs,e',s1,r1⟩:=ra.jr;obtain⟨v,e,rv⟩:=Q_ r1 q;exact .inr (.inl ⟨p,vs,i,v,e',rb.int_inv,s1,e,Zw.ok h S rv⟩)|_=>exact h.elim
 | aH ds=>cases b with
  |int i=>have h:Zw X.K H ι Q (J1 (dM ds i) (λd=>.ok d M)):=h;obtain⟨d,q,h⟩:=Q0 h;obtain⟨p,vs,e',s1,r1⟩:=ra.sZ;obtain⟨v,e,rv⟩:=Q_ r1 q;exact .inl ⟨p,vs,i,v,e',rb.int_inv,s1.sq,e,Zw.ok h S rv⟩|_=>exact h.elim
 | str z=>cases b with
  |int i=>have h:Zw X.K H ι Q (onN (dM z i) (λc=>@ite _ (z.length<=SZ) (Ys _) (.ok (.str [c]) M) .bad)):=h;obtain⟨c,q,h⟩:=Zp3 h;obtain⟨hz,h⟩:=yh h;exact .inr (.inr ⟨_,i,c,ra.str_inv,rb.int_inv,Ym hz lY,q,Zw.ok h S Rep.str⟩)|_=>exact h.elim
 | ref n=>cases b with
  |int i=>have h:Zw X.K H ι Q (Q3 (M[n]?) (λds=>J1 (dM ds i) λd=>.ok d M)):=h;obtain⟨ds,hn,h⟩:=Zli h;obtain⟨d,q,h⟩:=Q0 h;obtain⟨p,hp,e'⟩:=ra.d_;obtain⟨vs,e1,r1⟩:=S.obj n _ p hn hp;obtain⟨v,e,rv⟩:=Q_ r1 q;exact .inl ⟨p,vs,i,v,e',rb.int_inv,bQ.of e1,e,Zw.ok h S rv⟩|_=>exact h.elim
 |_=>cases b<;>exact h.elim
theorem Ra(r:Zt K H ι ds vs)(lo hi:Option Int):Zt K H ι (cutD ds lo hi) (vR vs lo hi):=by
 have e:∀n d o,HT.aG n d o=aG n d o:=λn d o=>by cases o<;>rfl
 unfold cutD vR;rw[e,e,r.length];exact(r.drop _).take _
end
noncomputable def jF(cells:List (aj×Yq)):List (aj×NameKind)->List (aj×Yq)->List (aj×Yq)
 |[],cs=>cs|(n,k)::r,cs=>jF cells r (if k== .free then(n,(cells.lookup n).getD 0)::cs else cs)
theorem Ff{cells:List (aj×Yq)}{n:aj}{k:NameKind}{r:List (aj×NameKind)}{cs:List (aj×Yq)}:jF cells ((n,k)::r) cs=jF cells r (if k== .free then(n,(cells.lookup n).getD 0)::cs else cs):=rfl
theorem Zho{scope:Scope}{env:cH}(h:∀y∈scope.names,y.2= .free->∃c,env.cells.lookup y.1=Ya c):closureFor scope env=pure (jF env.cells scope.names []):=by
 unfold closureFor;have key:∀(names:List (aj×NameKind)) (cs:List (aj×Yq)),(∀y∈names,y.2= .free->∃c,env.cells.lookup y.1=Ya c) ->
   (forIn names cs λx r=>match x with|(name,kind)=>if(kind==NameKind.free)=true then do let c ←cellOf env name;pure (ForInStep.yield ((name,c)::r))else pure (ForInStep.yield r):nG (List (aj×Yq)))=pure (jF env.cells names cs):=by
  intro names
  induction names with
  |nil=>intro cs _;rfl|cons y r ih=>
   intro cs hy;obtain⟨n,k⟩:=y;rw[Nz];by_cases hk:k= .free
   .subst hk;obtain⟨c,hc⟩:=hy (n,.free) Yu rfl;have e1:cellOf env n=pure c:=by unfold cellOf;rw[hc]
    simp only[beq_self_eq_true,if_true,e1,pure_bind];rw[ih _ λz hz=>hy z (Yv _ hz)];rw[Ff,hc];rfl
   .have hb:(k==NameKind.free)=false:=by simpa using hk
    simp only[hb,Ih,if_false,pure_bind];rw[ih _ λz hz=>hy z (Yv _ hz)];rw[Ff,hb];rfl
 have:=key scope.names [] h
 first
  |exact this
  |(simp only[bind_pure];exact this)
theorem Zmq{cells:List (aj×Yq)}{x:aj}{c:Yq}:∀(names:List (aj×NameKind)) (cs:List (aj×Yq)),(∀y∈names,y.2= .free->∃c,cells.lookup y.1=Ya c)->(jF cells names cs).lookup x=Ya c->cs.lookup x=Ya c\/cells.lookup x=Ya c:=by
 intro names
 induction names with
 |nil=>intro cs _ h;exact .inl h|cons y r ih=>
  intro cs hy h;obtain⟨n,k⟩:=y;rw[Ff]at h;rcases ih _ (λz hz=>hy z (Yv _ hz)) h with q|q
  .by_cases hk:k= .free
   .subst hk;obtain⟨c0,hc⟩:=hy (n,.free) Yu rfl;simp only[beq_self_eq_true,if_true,hc,Option.getD_some,jc]at q;cases hx:x==n with
    |true=>
     simp only[hx]at q;cases q;have:x=n:=by simpa using hx
     subst this;exact .inr hc
    |false=>simp only[hx]at q;exact .inl q
   .have hb:(k==NameKind.free)=false:=by simpa using hk
    simp only[hb,Ih,if_false]at q;exact .inl q
  .exact .inr q
theorem ZkC{cells:List (aj×Yq)}{x:aj}:∀(names:List (aj×NameKind)) (cs:List (aj×Yq)),(cs.lookup x).isSome=true->((jF cells names cs).lookup x).isSome=true:=by
 intro names
 induction names with
 |nil=>intro cs h;exact h|cons y r ih=>
  intro cs h;obtain⟨n,k⟩:=y;rw[Ff];refine ih _ ?_;split
  .rw[jc];split
   .rfl
   .exact h
  .exact h
theorem ZhQ{cells:List (aj×Yq)}{x:aj}:∀(names:List (aj×NameKind)) (cs:List (aj×Yq)),(x,NameKind.free)∈names->((jF cells names cs).lookup x).isSome=true:=by
 intro names
 induction names with
 |nil=>intro cs h;cases h|cons y r ih=>
  intro cs h;obtain⟨n,k⟩:=y;rw[Ff];rcases Y1.mp h with e|h
  .cases e
   refine ZkC _ _ ?_;simp
  .exact ih _ h
noncomputable def pU(X:Cx)(scope:Scope)(N':List aj)(C:Yq)(cl:List (aj×Yq))(s:Yf)(H:Hp)(ex:List Yq):Cx:={X with N:=N',s₀:=s,H₀:=H,env:=Hr scope cl C X.env,outer:=X.stack,stack:=X.stack,ex:=ex,fn:=λ_=>false,pn:=[],xe:=λ_ _=>False}
noncomputable def Rb(N N':List aj)(scope:Scope):Bool:=(kW N.length).all λi=>match N'[i]? with
 |some x=>(scope.names.lookup x).isNone|| (decide (N[i]?=Ya x)&&decide (scope.names.lookup x=Ya .free))|none=>false
def yp(X:Cx)(ifs:List Expr)(ts:List E3):Prop:=∀(pins:List (Yq×aB)) (s:Yf) (σ:St) (H:Hp) (Q:Bool->Hp->Prop),Inv X pins σ H s ->
 (∃ι M env,aA X.K H ι M/\bF X.K H ι env σ/\match v7 ts env M with| .ok b M'=>∀H' ι',Ext X.K H ι H' ι'->aA X.K H' ι' M'->Q b H'|_=>False) ->
 Y8 (ao X.prog X.w) X.A (forIn ifs true λc r=>if r=true then do let ok ←isTrue c X.env (aF c X.env);pure (ForInStep.yield ok)else pure (ForInStep.yield r)) (TP X pins σ Q) X.xe s
theorem Rc:yp X [] []:=λpins s σ H Q I ⟨ι,M,env,S,E,h⟩=>wpAny_tests_nil ⟨H,I,h H ι Ext.refl S⟩
section
variable {prog:Y3} {w:aO} {A:bB} {R:tM->Yf->Prop} {s:Yf}
theorem Zi9{elt target iter:Expr}{ifs:List Expr}{scope:Scope}{pos:aY}{it acc:Yd}{env:cH}(I:Nat->Yf->Prop)(turn:∀n s,I n s->Y8 (ao prog w) A (qi it) (λr s₁=>match r with
   |none=>R (.ok .next) s₁|some v=>Y8 (ao prog w) A (Yes target it v) (λ_ s₁'=>Y8 (ao prog w) A (tL target env v) (λ_ s₂=>
     Y8 (ao prog w) A (forIn ifs true λc r=>if r=true then do let ok ←isTrue c env (aF c env);pure (ForInStep.yield ok)else pure (ForInStep.yield r)) (λok s₃=>
      if ok=true then Y8 (ao prog w) A (aF elt env) (λx s₄=>Y8 (ao prog w) A (call (.builtin "list.append") [acc,x]) (λ_ s₅=>∃m,m<n/\I m s₅) (λ_ _=>False) s₄) (λ_ _=>False) s₃
      else∃m,m<n/\I m s₃) (λ_ _=>False) s₂) (λ_ _=>False) s₁') (λ_ _=>False) s₁) (λ_ _=>False) s)(n:Nat)(h:I n s):oY (ao prog w) A (.compLoop (.ListComp elt [⟨target,iter,ifs,0⟩] scope pos) 0 it acc env) R s:=by
 refine codeAny_loop rfl I (λn s hI=>?_) n h;show Y8 _ A ((compTurn (.ListComp elt [⟨target,iter,ifs,0⟩] scope pos) 0 it acc env).onRaise (λx=>do Dd x env;theTreesLotGoes x)) _ _ s;refine wpAny_noted ?_;rw[compTurn_list];refine Yc (vf (Yc (eO (turn n s hI) (λr s₁ h₁=>?_) λ_ _ h'=>dH h')));cases r with
 |none=>exact Yr h₁|some v=>
  refine Yc (eO h₁ (λ_ s₁' h₁'=>?_) λ_ _ h'=>dH h');refine Yc (eO h₁' (λ_ s₂ h₂=>Yc (eO h₂ (λok s₃ h₃=>?_) λ_ _ h'=>dH h')) λ_ _ h'=>dH h');cases ok with
  |false=>exact Yr ⟨rfl,h₃⟩|true=>exact Yc (Yc (eO h₃ (λx s₄ h₄=>Yc (eO h₄ (λ_ s₅ h₅=>Yr (Yr ⟨rfl,h₅⟩)) λ_ _ h'=>dH h')) λ_ _ h'=>dH h'))
end
theorem Rf{env:cH}{x:aj}{k:NameKind}:∀{names:List (aj×NameKind)},(names.map λ(n,k)=>if(k==NameKind.free&&env.scope.kind== .function&&env.kindOf n==Ya .cell)then(n,NameKind.cell)else(n,k)).lookup x=Ya k ->
  ∃k0,names.lookup x=Ya k0/\(k0=k\/(k0= .free/\k= .cell)):=by
 intro names
 induction names with
 |nil=>intro h;simp at h|cons y r ih=>
  intro h;obtain⟨n,k1⟩:=y;rw[Yy]at h;cases hx:x==n with
  | true=>
   refine⟨k1,by simp[jc,hx],?_⟩;by_cases hc:(k1==NameKind.free&&env.scope.kind== .function&&env.kindOf n==Ya .cell)=true
   .simp only[if_pos hc,jc,hx]at h;cases h;simp only[gQ,beq_iff_eq]at hc;exact .inr ⟨hc.1.1,rfl⟩
   .simp only[if_neg hc,jc,hx]at h;cases h;exact .inl rfl
  | false=>
   have h':(r.map λ(n,k)=>if(k==NameKind.free&&env.scope.kind== .function&&env.kindOf n==Ya .cell)then(n,NameKind.cell)else(n,k)).lookup x=Ya k:=by
    by_cases hc:(k1==NameKind.free&&env.scope.kind== .function&&env.kindOf n==Ya .cell)=true
    .simp only[if_pos hc,jc,hx]at h;exact h
    .simp only[if_neg hc,jc,hx]at h;exact h
   obtain⟨k0,e,q⟩:=ih h';exact⟨k0,by simp[jc,hx,e],q⟩
theorem Zi3{env:cH}{x:aj}:∀{names:List (aj×NameKind)},names.lookup x=Ya .free ->
  (names.map λ(n,k)=>if(k==NameKind.free&&env.scope.kind== .function&&env.kindOf n==Ya .cell)then(n,NameKind.cell)else(n,k)).lookup x=Ya .free\/
  (names.map λ(n,k)=>if(k==NameKind.free&&env.scope.kind== .function&&env.kindOf n==Ya .cell)then(n,NameKind.cell)else(n,k)).lookup x=Ya .cell:=by
 intro names
 induction names with
 |nil=>intro h;simp at h|cons y r ih=>
  intro h;obtain⟨n,k1⟩:=y;rw[Yy];cases hx:x==n with
  |true=>
   simp only[jc,hx]at h;cases h;by_cases hc:(NameKind.free==NameKind.free&&env.scope.kind== .function&&env.kindOf n==Ya .cell)=true
   .simp only[if_pos hc,jc,hx];exact .inr trivial
   .simp only[if_neg hc,jc,hx];exact .inl trivial
  |false=>
   simp only[jc,hx]at h;by_cases hc:(k1==NameKind.free&&env.scope.kind== .function&&env.kindOf n==Ya .cell)=true
   .simp only[if_pos hc,jc,hx];exact ih h
   .simp only[if_neg hc,jc,hx];exact ih h
section
variable {X:Cx} {pins:List (Yq×aB)} {σ:St} {H:Hp} {s:Yf} {scope:Scope} {N':List aj} {own:Nat} {fp:List Yq}
theorem Znl(I:Inv X pins σ H s)(hk:scope.kind= .function)(hcell:∀y∈scope.names,y.2≠ .cell)(hfree:∀y∈scope.names,y.2= .free->X.env.kindOf y.1=Ya .cell\/X.env.kindOf y.1=Ya .free)(hN:N'.length=X.N.length+own)(hv:Rb X.N N' scope=true)(hfp:∀b∈fp,jf X pins H b)(hlt:∀b∈fp,b<s.heap.objs.size){h1:aq}{tk:Nat}(hns:h1.Ns s.heap.objs.size λ_=>Ye)(keep:∀b o,s.heap.get? b=Ya o->h1.get? b=Ya o):
  Inv (pU X scope N' s.heap.objs.size (jF X.env.cells scope.names []) s H fp) [] (σ++Yj own Ye) H {s with heap:=h1,toks:=tk}:=by
 have hc0:∀y∈scope.names,y.2= .free->∃c,X.env.cells.lookup y.1=Ya c:=λy hy e=>I.ok.has y.1 (hfree y hy e);have sub:∀x c,(jF X.env.cells scope.names []).lookup x=Ya c->X.env.cells.lookup x=Ya c:=λx c h=>by
  rcases Zmq scope.names [] hc0 h with q|q
  .simp at q
  .exact q
 have cellK:∀{c:Yq} {v:Option Yd},s.heap.IsCell c v->h1.IsCell c v:=λ⟨o,ho,hd⟩=>⟨o,keep _ o ho,hd⟩;refine⟨⟨I.ok.mod,hk,I.ok.glob,I.ok.blt,Yt _,λx y c h1 h2=>I.ok.inj x y c (sub x c h1) (sub y c h2),λx hx=>?_,λx c h=>?_,I.ok.hd,I.ok.frames,.inl rfl,λb hb=>⟨eQ (hlt b hb),λx c h=>(hfp b hb).2.2.2.2.1 x c (sub x c h)⟩,
   I.bs,Ym I.ok.nW I.sz,λb o e hb=>?_,λb hb hz=>?_,I.stack,I.Gy⟩,rfl,I.bare,Un.kept keep,⟨_,hns,λi x v h1 h2 h3=>?_⟩,λx c h=>?_,I.hok.fresh (Yt _),λx c h=>I.jK x c (sub x c h),
  λp hp=>absurd (show p∈([]:List (Yq×aB))from hp) (by simp),I.hok.kept keep,?_⟩
 .have hx':(xr scope X.env).names.lookup x=Ya .cell\/(xr scope X.env).names.lookup x=Ya .free:=hx;have:scope.names.lookup x=Ya .free:=by
   rcases hx' with hx'|hx'
   .obtain⟨k0,e,q⟩:=Rf (names:=scope.names) hx';rcases q with q|⟨q,_⟩
    .subst q;exact absurd rfl (hcell _ (tG e))
    .rw[e,q]
   .obtain⟨k0,e,q⟩:=Rf (names:=scope.names) hx';rcases q with q|⟨_,q⟩
    .rw[e,q]
    .cases q
  exact GQ.mp (ZhQ scope.names [] (tG this))
 .cases h
 .obtain⟨_,_,_,q,_⟩:=hfp b hb;rcases q with q|q
  .exact I.ok.wQ b o e q
  .exact absurd (Yz (Yx e) (Ym I.ok.nW q)) (tW _)
 .have hz':b∈frs X.stack:=hz;obtain⟨_,q1,q2,_⟩:=hfp b hb;rcases Y1.mp (I.wO b hz')with e|e
  .exact q1 e
  .exact q2 e
 .have hi:i<σ.length:=by
   by_cases hi:i<σ.length
   .exact hi
   .rw[xu (jT hi),Hw]at h2;split at h2<;>cases h2
  rw[Y6 hi]at h2;have DX:i<X.N.length:=by rw[←I.len];exact hi
  have hN':N'[i]?=Ya x:=h1;have vq:=fB.mp hv i (HD.mpr DX);rw[hN']at vq;have h3':(xr scope X.env).names.lookup x=Ya .local\/(xr scope X.env).names.lookup x=Ya .cell\/(xr scope X.env).names.lookup x=Ya .free:=h3;have some_of:∃k0,scope.names.lookup x=Ya k0:=by rcases h3' with q|q|q<;>(obtain⟨k0,e,_⟩:=Rf (names:=scope.names) q;exact⟨k0,e⟩)
  obtain⟨k0,ek⟩:=some_of;simp only[ek,Option.isNone_some,Wf,gQ,decide_eq_true_eq]at vq;obtain⟨vq1,vq2⟩:=vq;cases vq2;have hkind:=hfree (x,.free) (tG ek) rfl;obtain⟨m,hn,hl⟩:=I.loc;have AdA:Ji X.env.scope x:=by
   rcases hkind with q|q
   .exact .inr (.inl q)
   .exact .inr (.inr q)
  obtain⟨u,ru,lk⟩:=hl i x v vq1 h2 AdA;refine⟨u,ru,?_⟩;rcases lk with⟨kl,_⟩|⟨_,c,ec,ic⟩
  .rcases hkind with q|q<;>(rw[q]at kl;cases kl)
  .have hkk:(Hr scope (jF X.env.cells scope.names []) s.heap.objs.size X.env).kindOf x=Ya .cell\/(Hr scope (jF X.env.cells scope.names []) s.heap.objs.size X.env).kindOf x=Ya .free:=by
    rcases Zi3 (env:=X.env) ek with q|q
    .exact .inr q
    .exact .inl q
   obtain⟨c',ec'⟩:=GQ.mp (ZhQ (cells:=X.env.cells) scope.names [] (tG ek));have e2:=sub x c' ec';rw[ec]at e2;cases e2;exact .inr ⟨hkk,c,ec',cellK ic⟩
 .obtain⟨v,ic⟩:=I.cell x c (sub x c h);exact⟨v,cellK ic⟩
 .show(σ++Yj own Ye).length=N'.length;rw[Yi,Vs,I.len,hN]
theorem bF.grow{H:Hp}{σ:St}(E:bF K H ι env σ)(n:Nat):bF K H ι (env++Yj n Ye) (σ++Yj n Ye):=by
 refine⟨by simp[E.1],λi d h=>?_⟩;by_cases hi:i<env.length
 .rw[Y6 hi]at h;obtain⟨v,e,r⟩:=E.2 i d h;exact⟨v,by rw[Y6 (by rw[←E.1];exact hi)];exact e,r⟩
 .rw[xu (jT hi),Hw]at h;split at h<;>cases h
end
section
structure Cb where
 Y:Cx
 fp:List Yq
 tn:Nat->aq->Prop
 bL:lK
 H2:Hp
 ι2:List Yq
 Q:VK
 g:G3
 ts:List E3
 f:E3
 nM:Nat
 acc:Yq
inductive Rg(P:Cb)(n:Nat)(s':Yf):Prop
 | mk (k:Nat) (σ5:St) (H5:Hp) (ι5:List Yq) (M5:Store) (Mu:Zu) (I5:Inv P.Y [] σ5 H5 s') (pq:P.tn k s'.heap) (uf:∀b∈P.fp,H5 b=Ye) (hn:P.bL.items.length-k=n) (hk:k<=P.bL.items.length)
   (x5:Ext P.Y.K P.H2 P.ι2 H5 ι5) (S5:aA P.Y.K H5 ι5 M5) (E5:bF P.Y.K H5 ι5 Mu σ5) (hι:ι5[P.nM]?=Ya P.acc) (h5:Zw P.Y.K H5 ι5 P.Q (iM P.bL P.g P.ts P.f P.nM (P.bL.items.drop k) Mu M5))
def J3(P:Cb)(n:Nat)(s':Yf):Prop:=∃m,m<n/\Rg P m s'
section
noncomputable local instance (priority:=100000) AdM (p:Prop):Decidable p:=Adi p
noncomputable def J4(P:Cb)(k:Nat)(env:Zu)(e:D)(M2:Store):R3 D:=match M2[P.nM]? with
 |some (.lst x)=>if x.length<SZ then iM P.bL P.g P.ts P.f P.nM (P.bL.items.drop (k+1)) env (M2.set P.nM (.lst (x++[e])))else .bad|_=>.bad
noncomputable def Rh(P:Cb)(k:Nat)(env:Zu)(b:Bool)(M1:Store):R3 D:=if b then(P.f env M1).bind (J4 P k env)else iM P.bL P.g P.ts P.f P.nM (P.bL.items.drop (k+1)) env M1
end
def cbF(P:Cb)(n:Nat)(xv:Yd)(s:Yf):Prop:=Y8 (ao P.Y.prog P.Y.w) P.Y.A (call (.builtin "list.append") [.ref P.acc,xv]) (λ_ s'=>J3 P n s') P.Y.xe s
def cbO(P:Cb)(elt:Expr)(n:Nat)(ok:Bool)(s:Yf):Prop:=if ok=true then Y8 (ao P.Y.prog P.Y.w) P.Y.A (aF elt P.Y.env) (cbF P n) P.Y.xe s else J3 P n s
def cbS(P:Cb)(elt:Expr)(ifs:List Expr)(n:Nat)(s:Yf):Prop:=Y8 (ao P.Y.prog P.Y.w) P.Y.A (forIn ifs true λc r=>if r=true then do let ok ←isTrue c P.Y.env (aF c P.Y.env);pure (ForInStep.yield ok)else pure (ForInStep.yield r)) (cbO P elt n) P.Y.xe s
def cbA(P:Cb)(tg elt:Expr)(ifs:List Expr)(n:Nat)(u:Yd)(s:Yf):Prop:=Y8 (ao P.Y.prog P.Y.w) P.Y.A (tL tg P.Y.env u) (λ_=>cbS P elt ifs n) P.Y.xe s
def cbN(P:Cb)(tg elt:Expr)(ifs:List Expr)(it:Yq)(n:Nat)(F:Yf->Prop)(r:Option Yd)(s:Yf):Prop:=match r with
 |none=>F s|some v=>Y8 (ao P.Y.prog P.Y.w) P.Y.A (Yes tg (.ref it) v) (λ_=>cbA P tg elt ifs n v) P.Y.xe s
variable {P:Cb} {tg elt:Expr} {ifs:List Expr} {J:It} {it:Yq} {k:Nat} {h7:aq} {σ:St} {H H':Hp} {s:Yf} {ι:List Yq} {M M1:Store} {env:Zu}
theorem ZlT(T:Turn P.Y.prog P.Y.w P.Y.K tg J P.fp it P.tn)(pW:P.tn (k+1) h7)(hlt:k<P.bL.items.length)(I':Inv P.Y ([]++vP P.fp h7) σ H s)(x:Ext P.Y.K P.H2 P.ι2 H ι)(S:aA P.Y.K H ι M)(E:bF P.Y.K H ι env σ)(hι:ι[P.nM]?=Ya P.acc)(h:Zw P.Y.K H ι P.Q (iM P.bL P.g P.ts P.f P.nM (P.bL.items.drop (k+1)) env M)):J3 P (P.bL.items.length-k) s:=⟨P.bL.items.length-(k+1),lD 2 0x30113c2012a1c0c21 T1 (nQ (lB 1 6991908881 T1 hlt)) (o_ _ _),⟨k+1,σ,H,ι,M,env,I'.Gw,T.keep _ _ _ pW λb hb o e=>(I'.pin (b,o) (o4 _ (o4 _ (Jt hb e)))).1,λb hb=>(T.obj _ _ pW b hb).elim λo e=>(I'.pin (b,o) (o4 _ (o4 _ (Jt hb e.1)))).2.1,rfl,hlt,x,S,E,hι,h⟩⟩
theorem Zud:Rh P k env true M=(P.f env M).bind (J4 P k env):=if_pos rfl
theorem Zu5:Rh P k env false M=iM P.bL P.g P.ts P.f P.nM (P.bL.items.drop (k+1)) env M:=if_neg (by decide)
theorem Zw.iff{H:Hp}{ι:List Yq}{c:Prop}{dc:Decidable c}(h:Zw K H ι Q (if c then r else .bad)):c/\Zw K H ι Q r:=by
 by_cases hc:c
 .rw[if_pos hc]at h;exact⟨hc,h⟩
 .rw[if_neg hc]at h;exact h.elim
theorem Zr2{xv:Yd}(T:Turn P.Y.prog P.Y.w P.Y.K tg J P.fp it P.tn)(pW:P.tn (k+1) h7)(hlt:k<P.bL.items.length)(I':Inv P.Y ([]++vP P.fp h7) σ H s)(r:RelV v xv)(x:Ext P.Y.K P.H2 P.ι2 H ι)(S:aA P.Y.K H ι M)(E:bF P.Y.K H ι env σ)(rd:Rep P.Y.K H ι d v)(hι:ι[P.nM]?=Ya P.acc)(hm:M[P.nM]?=Ya (.lst xs))(hz:xs.length<SZ)(h:Zw P.Y.K H ι P.Q (iM P.bL P.g P.ts P.f P.nM (P.bL.items.drop (k+1)) env (M.set P.nM (.lst (xs++[d]))))):
  cbF P (P.bL.items.length-k) xv s:=by
 obtain⟨vs,ev,rvs⟩:=S.obj _ _ _ hm hι;obtain⟨x11,S11⟩:=S.Cv (.inr (.inl ⟨_,ev⟩)) hι (rvs.append (Zt.cons rd Zt.nil));refine aP (Q':=λ_ s'=>J3 P (P.bL.items.length-k) s') (ZZ _ s σ H (.ref P.acc) [v] (.ref P.acc) [xv] (λ_ H'=>H'=upd H P.acc (.lst (vs++[v]))) I' rfl (.cons r .nil) ⟨_,vs,v,rfl,rfl,ev,by rw[rvs.length];exact Yz hz lY,rfl⟩) λ_ s11 ak=>?_;obtain⟨_,H11,I11,_,eH⟩:=ak;rw[eH]at I11;exact ZlT T pW hlt I11 (x.trans x11) S11 (E.mono x11) (x11.pre _ _ hι) (h.up x11)
theorem ZsA(T:Turn P.Y.prog P.Y.w P.Y.K tg J P.fp it P.tn)(helt:C3 P.Y elt P.f)(pW:P.tn (k+1) h7)(hlt:k<P.bL.items.length)(I':Inv P.Y ([]++vP P.fp h7) σ H s)(x:Ext P.Y.K P.H2 P.ι2 H ι)(S:aA P.Y.K H ι M)(E:bF P.Y.K H ι env σ)(hι:ι[P.nM]?=Ya P.acc)(h:Zw P.Y.K H ι P.Q ((P.f env M).bind (J4 P k env))):
  Y8 (ao P.Y.prog P.Y.w) P.Y.A (aF elt P.Y.env) (cbF P (P.bL.items.length-k)) P.Y.xe s:=by
 obtain⟨d,M10,e10,h10⟩:=Zw.bind h;refine aP (Q':=cbF P (P.bL.items.length-k)) (helt _ s σ H (λv H'=>∃J5,Ext P.Y.K H ι H' J5/\aA P.Y.K H' J5 M10/\Rep P.Y.K H' J5 d v) I' ⟨ι,M,env,S,E,by rw[e10];exactλv H' ι' x' S' r'=>⟨ι',x',S',r'⟩⟩) λxv s10 ak=>?_;obtain⟨v,H10,I10,r10,J5,x10,S10,rd⟩:=ak;unfold J4 at h10;cases hm:M10[P.nM]? with
 |none=>rw[hm]at h10;exact h10.elim|some o=>
  rw[hm]at h10;cases o with
  |dct _=>exact h10.elim|cR _=>exact h10.elim|ins _ _=>exact h10.elim|lst xs=>exact Zr2 T pW hlt I10 r10 (x.trans x10) S10 (E.mono x10) rd (x10.pre _ _ hι) hm (Zw.iff h10).1 ((Zw.iff h10).2.up x10)
theorem ZrR(T:Turn P.Y.prog P.Y.w P.Y.K tg J P.fp it P.tn)(hts:yp P.Y ifs P.ts)(helt:C3 P.Y elt P.f)(pW:P.tn (k+1) h7)(hlt:k<P.bL.items.length)(I':Inv P.Y ([]++vP P.fp h7) σ H s)(x:Ext P.Y.K P.H2 P.ι2 H ι)(S:aA P.Y.K H ι M)(E:bF P.Y.K H ι env σ)(hι:ι[P.nM]?=Ya P.acc)(h:Zw P.Y.K H ι P.Q ((v7 P.ts env M).bind (Rh P k env))):
  cbS P elt ifs (P.bL.items.length-k) s:=by
 obtain⟨b,M9,e9,h9⟩:=Zw.bind h;refine aP (Q':=cbO P elt (P.bL.items.length-k)) (hts _ s σ H (λb' H'=>b'=b/\∃ι9,Ext P.Y.K H ι H' ι9/\aA P.Y.K H' ι9 M9) I' ⟨ι,M,env,S,E,by rw[e9];exactλH' ι' x' S'=>⟨rfl,ι',x',S'⟩⟩) λb' s9 ak=>?_;obtain⟨H9,I9,eb,ι9,x9,S9⟩:=ak;rw[←eb]at h9;cases b' with
 |false=>exact ZlT T pW hlt I9 (x.trans x9) S9 (E.mono x9) (x9.pre _ _ hι) (Zw.up x9 (Zu5▸h9))|true=>exact ZsA T helt pW hlt I9 (x.trans x9) S9 (E.mono x9) (x9.pre _ _ hι) (Zw.up x9 (Zud▸h9))
theorem Zuw(T:Turn P.Y.prog P.Y.w P.Y.K tg J P.fp it P.tn)(hc:P.Y.calm=true)(hfp:∀{H':Hp},(∀b∈P.fp,H' b=Ye)->∀b∈P.fp,jf P.Y [] H' b)(hg:CG P.Y tg P.g)(hts:yp P.Y ifs P.ts)(helt:C3 P.Y elt P.f)(hlt:k<P.bL.items.length)(I5:Inv P.Y [] σ H s)(pq:P.tn k s.heap)(uf:∀b∈P.fp,H b=Ye)(x:Ext P.Y.K P.H2 P.ι2 H ι)(S:aA P.Y.K H ι M)(E:bF P.Y.K H ι env σ)(hι:ι[P.nM]?=Ya P.acc)(ok:rY P.Y.K P.H2 P.ι2 P.bL J)(h:Zw P.Y.K H ι P.Q (iM P.bL P.g P.ts P.f P.nM (P.bL.items[k]::P.bL.items.drop (k+1)) env M))(F:Yf->Prop):
  Y8 (ao P.Y.prog P.Y.w) P.Y.A (qi (.ref it)) (cbN P tg elt ifs it (P.bL.items.length-k) F) P.Y.xe s:=by
 obtain⟨lk,h⟩:=Zw.iff h;obtain⟨go,yl⟩:=(ok k H ι M x S lk).1 _ (Y2 hlt);cases eg:P.g P.bL.items[k] env with
 |none=>rw[eg]at h;exact h.elim|some Uk=>rw[eg]at h;refine aP (T.item P.Y rfl rfl rfl hc k [] s σ H P.Y.xe I5 (hfp uf) pq go) λr s6 ak=>?_;obtain⟨u,hr,h6⟩:=ak;rw[hr];refine aP (Q':=λ_=>cbA P tg elt ifs (P.bL.items.length-k) u) h6 λ_ s7 ak=>?_;obtain⟨y,H7,I7,r7,y7,pW,fr7⟩:=ak;obtain⟨e7,rx⟩:=yl y H7 y7;rw[e7]at I7 fr7;refine aP (Q':=λ_=>cbS P elt ifs (P.bL.items.length-k)) (hg _ s7 σ H y u (λσ' H'=>H'=H/\bF P.Y.K H ι Uk σ') (I7.pinned (hfp fr7) (T.obj _ _ pW)) r7 ⟨ι,M,env,_,Uk,S,E,rx,eg,λσ' E'=>⟨rfl,E'⟩⟩) λ_ s8 ak=>?_;obtain⟨σ8,H8,I8,e8,E8⟩:=ak;rw[e8]at I8;exact ZrR T hts helt pW hlt I8 x S E8 hι h
theorem Zqz(T:Turn P.Y.prog P.Y.w P.Y.K tg J P.fp it P.tn)(hc:P.Y.calm=true)(hfp:∀{H':Hp},(∀b∈P.fp,H' b=Ye)->∀b∈P.fp,jf P.Y [] H' b)(I5:Inv P.Y [] σ H s)(pq:P.tn P.bL.items.length s.heap)(uf:∀b∈P.fp,H b=Ye)(x:Ext P.Y.K P.H2 P.ι2 H ι)(S:aA P.Y.K H ι M)(hι:ι[P.nM]?=Ya P.acc)(ok:rY P.Y.K P.H2 P.ι2 P.bL J)(h:Zw P.Y.K H ι P.Q (iM P.bL P.g P.ts P.f P.nM [] env M)){F:Yf->Prop}(hF:∀s6,Inv P.Y [] σ H s6->P.Q (.ref P.acc) H->F s6):
  Y8 (ao P.Y.prog P.Y.w) P.Y.A (qi (.ref it)) (cbN P tg elt ifs it n F) P.Y.xe s:=by
 obtain⟨lk,h⟩:=Zw.iff h;refine aP (T.done P.Y rfl rfl rfl hc _ [] s σ H P.Y.xe I5 (hfp uf) pq ((ok _ H ι M x S lk).2 rfl)) λr s6 ak=>?_;rw[ak.1];exact hF s6 ak.2 (h _ H ι Ext.refl S (Rep.ref hι))
end
variable{pins:List (Yq×aB)}{s:Yf}{fp:List Yq}{E:Yd->Yf->Prop}
section
variable {X:Cx} {elt tg iter:Expr} {ifs:List Expr} {scope:Scope} {pos:aY} {i:I3} {own:Nat} {g:G3} {ts:List E3} {f:E3} {N':List aj}
structure J6(X:Cx)(scope:Scope)(N':List aj)(own:Nat):Prop where
 kind:scope.kind= .function
 cell:∀y∈scope.names,y.2≠ .cell
 free:∀y∈scope.names,y.2= .free->X.env.kindOf y.1=Ya .cell\/X.env.kindOf y.1=Ya .free
 names:∀y∈scope.names,y.2= .local->scope.names.lookup y.1=Ya .local
 len:N'.length=X.N.length+own
 vis:Rb X.N N' scope=true
theorem Zqb{P:Cb}{J:It}{it:Yq}{F:Yf->Prop}(T:Turn P.Y.prog P.Y.w P.Y.K tg J P.fp it P.tn)(hc:P.Y.calm=true)(hfp:∀{H':Hp},(∀b∈P.fp,H' b=Ye)->∀b∈P.fp,jf P.Y [] H' b)(hb:CG P.Y tg P.g/\yp P.Y ifs P.ts/\C3 P.Y elt P.f)(ok:rY P.Y.K P.H2 P.ι2 P.bL J)(z:Rg P n s)(fin:∀σ H s',Inv P.Y [] σ H s'->P.Q (.ref P.acc) H->F s'):Y8 (ao P.Y.prog P.Y.w) P.Y.A (qi (.ref it)) (cbN P tg elt ifs it n F) P.Y.xe s:=by
 obtain⟨k,σ5,H5,ι5,M5,Mu,I5,pq,uf,hn,hk,x5,S5,E5,hι,h5⟩:=z;by_cases hlt:k<P.bL.items.length
 .rw[xF hlt]at h5;exact hn▸Zuw T hc hfp hb.1 hb.2.1 hb.2.2 hlt I5 pq uf x5 S5 E5 hι ok h5 _
 .rw[Y9 hk (jT hlt)]at pq h5;rw[Dj]at h5;exact Zqz T hc hfp I5 pq uf x5 S5 hι ok h5 λs6 I6 q=>fin σ5 H5 s6 I6 q
theorem ZjZ{s3:Yf}{H2 H3:Hp}{ι2 ι3:List Yq}{M3:Store}{nM:Nat}{D:Yq}{it:Yq}{tn:Nat->aq->Prop}{J:It}{bL:lK}(O:J6 X scope N' own)(hc:X.calm=true)(hb:∀C cl s H ex,CG (pU X scope N' C cl s H ex) tg g/\yp (pU X scope N' C cl s H ex) ifs ts/\C3 (pU X scope N' C cl s H ex) elt f)(T:Turn X.prog X.w X.K tg J fp it tn)(st3:tn 0 s3.heap)(Cw:∀b∈fp,b<s3.heap.objs.size)(I3:Inv X pins σ H3 s3)(wW:∀b∈fp,jf X pins H3 b)(x3:Ext X.K H2 ι2 H3 ι3)(S3:aA X.K H3 ι3 M3)(E2:bF X.K H3 ι3 env σ)(ok:rY X.K H2 ι2 bL J)(h:Zw X.K H3 ι3 Q (iM bL g ts f nM bL.items (env++Yj own Ye) M3))(hι:ι3[nM]?=Ya D)(RR:Yd->Yq->tM->Yf->Prop)(fin:∀(acc C:Yq) (s':Yf) (m:aj->Option Yd) (H':Hp),s'.heap.Ns C m->jf X pins H' C->Inv X pins σ H' s'->Q (.ref acc) H'->RR (.ref acc) C (.ok .next) s'):
  Y8 (ao X.prog X.w) X.A (newFunctionEnv scope X.env.globals (jF X.env.cells scope.names []) [] X.env.qual Ye .none (Ya X.env)) (λcenv s₄=>oY (ao X.prog X.w) X.A (.compStart (.ListComp elt [⟨tg,iter,ifs,0⟩] scope pos) 0 (.ref it) (.ref D) {cenv with scope:=xr scope X.env}) (RR (.ref D) cenv.locals) s₄) E s3:=by
 refine wpAny_newFunctionEnv O.cell (by intro y hy;cases hy) (λh4 hns hsb=>?_) O.kind;have Ua:∀b o,s3.heap.get? b=Ya o->h4.get? b=Ya o:=λb o e=>hsb.extBut b o (eQ (Yx e)) (Yh _ e);have I4:=Znl (own:=own) (N':=N') (tk:=s3.toks+([]:List (aj×Yd)).length) I3 O.kind O.cell O.free O.len O.vis wW Cw hns Ua;have st4:tn 0 h4:=T.keep _ _ _ st3 λb hb o e=>Ua b o e;have L:=Zi9 (prog:=X.prog) (w:=X.w) (A:=X.A) (R:=RR (.ref D) s3.heap.objs.size) (scope:=scope) (pos:=pos) (iter:=iter) (elt:=elt) (target:=tg) (ifs:=ifs) (env:=Hr scope (jF X.env.cells scope.names []) s3.heap.objs.size X.env) (Rg ⟨pU X scope N' s3.heap.objs.size (jF X.env.cells scope.names []) s3 H3 fp,fp,tn,bL,H2,ι2,Q,g,ts,f,nM,D⟩) (λn s5 z=>Zqb (P:=⟨pU X scope N' s3.heap.objs.size (jF X.env.cells scope.names []) s3 H3 fp,fp,tn,bL,H2,ι2,Q,g,ts,f,nM,D⟩) T hc
  (λhn b hb=>⟨hn b hb,eQ (Cw b hb),λhz=>I4.ok.wR b hb hz,.inl hb,λx c hx=>(I4.ok.Ed b hb).2 x c hx,λp hp=>absurd (show p∈([]:List (Yq×aB))from hp) (by simp)⟩)
  (hb _ _ _ _ _) ok z
  λσ' H' s6 I6 q=>I6.loc.elim λm6 hn6=>fin _ _ s6 m6 H' hn6.1 (I3.wU (Yt _) I6.free) (I3.call' (ch:=fp) I6.os I6.base I6.hok I6.bare λb hb=>⟨(wW b hb).2.2.2.1,(wW b hb).2.1,(wW b hb).2.2.2.2.1,(wW b hb).2.2.2.2.2⟩) q) _
  ⟨0,_,_,_,_,_,I4,st4,λb hb=>(wW b hb).1,rfl,jU _,x3,S3,E2.grow own,hι,h⟩
 exact codeAny_compStart_list L (T.self _ 0 _ _ _ st4 L)
theorem ZkD{s2:Yf}{H2:Hp}{ι2:List Yq}{M2:Store}{it:Yq}{tn:Nat->aq->Prop}{J:It}{bL:lK}(O:J6 X scope N' own)(hc:X.calm=true)(hb:∀C cl s H ex,CG (pU X scope N' C cl s H ex) tg g/\yp (pU X scope N' C cl s H ex) ifs ts/\C3 (pU X scope N' C cl s H ex) elt f)(I2:Inv X pins σ H2 s2)(T:Turn X.prog X.w X.K tg J fp it tn)(st0:tn 0 s2.heap)(hfp:∀b∈fp,jf X pins H2 b)(S2:aA X.K H2 ι2 M2)(E2:bF X.K H2 ι2 env σ)(ok:rY X.K H2 ι2 bL J)(h:Zw X.K H2 ι2 Q (iM bL g ts f M2.length bL.items (env++Yj own Ye) (M2++[.lst []])))(RR:Yd->Yq->tM->Yf->Prop)(fin:∀(acc C:Yq) (s':Yf) (m:aj->Option Yd) (H':Hp),s'.heap.Ns C m->jf X pins H' C->Inv X pins σ H' s'->Q (.ref acc) H'->RR (.ref acc) C (.ok .next) s'):
  Y8 (ao X.prog X.w) X.A (newList []) (λacc s₃=>Y8 (ao X.prog X.w) X.A (newFunctionEnv scope X.env.globals (jF X.env.cells scope.names []) [] X.env.qual Ye .none (Ya X.env)) (λcenv s₄=>oY (ao X.prog X.w) X.A (.compStart (.ListComp elt [⟨tg,iter,ifs,0⟩] scope pos) 0 (.ref it) acc {cenv with scope:=xr scope X.env}) (RR acc cenv.locals) s₄) E s₃) E s2:=by
 refine u9 ?_;have hD:H2 s2.heap.objs.size=Ye:=I2.hok.fresh (Yt _);obtain⟨x3,S3,r3⟩:=S2.lst hD (Zt.nil (K:=X.K) (H:=H2) (ι:=ι2));have I3:Inv X pins σ (upd H2 s2.heap.objs.size (.lst [])) {s2 with heap:=s2.heap.push {cls:=.type "list",data:=.seq ([]:List Yd).toArray}}:=I2.laid (t':=s2.toks) (λb u e=>Yh _ e) (Yt _) ⟨jU _,[],0,.nil,Yw _ rfl⟩;have GC:∀b o,s2.heap.get? b=Ya o->(s2.heap.push {cls:=.type "list",data:=.seq ([]:List Yd).toArray}).get? b=Ya o:=λb o e=>Yh _ e;generalize hs3:({s2 with heap:=s2.heap.push {cls:=.type "list",data:=.seq ([]:List Yd).toArray}}:Yf)=s3 at I3 ⊢;have GC:∀b o,s2.heap.get? b=Ya o->s3.heap.get? b=Ya o:=by rw[←hs3];exact GC
 have lt2:∀b∈fp,b<s2.heap.objs.size:=λb hb=>(T.obj _ _ st0 b hb).elim λo e=>Yx e.1;have Cw:∀b∈fp,b<s3.heap.objs.size:=λb hb=>(T.obj _ _ st0 b hb).elim λo e=>Yx (GC b o e.1);exact ZjZ O hc hb (T:=T) (st3:=T.keep _ _ _ st0 λb hb o e=>GC b o e) (Cw:=Cw) (I3:=I3) (wW:=λb hb=>⟨(Zr (eQ (lt2 b hb))).trans (hfp b hb).1,(hfp b hb).2⟩) (x3:=x3) (S3:=S3) (E2:=E2.mono x3) (ok:=ok) (h:=h.up x3) (hι:=by rw[←S2.len];simp) RR fin
theorem Ri(O:J6 X scope N' own)(J0:X.xe=λ_ _=>False)(hc:X.calm=true)(hi:CI X tg iter i)(hb:∀C cl s H ex,CG (pU X scope N' C cl s H ex) tg g/\yp (pU X scope N' C cl s H ex) ifs ts/\C3 (pU X scope N' C cl s H ex) elt f)(hs:∀x,za iter X.env x=pure x:=by intro _;rfl):C3 X (.ListComp elt [⟨tg,iter,ifs,0⟩] scope pos) (mU i own g ts f):=by intro pins s σ H Q I h;obtain⟨ι,M,env,S,E,h⟩:=h;obtain⟨bL,M1,e1,h⟩:=Zw.bind h;have hc0:∀y∈scope.names,y.2= .free->∃c,X.env.cells.lookup y.1=Ya c:=λy hy e=>I.ok.has y.1 (O.free y hy e);rw[eval_ListComp];refine wpAny_comprehension_free (use:=Ye) rfl hs (Zho hc0) O.kind O.names ?_;refine aP (hi pins s σ H (λJ H'=>∃ι',Ext X.K H ι H' ι'/\aA X.K H' ι' M1/\rY X.K H' ι' bL J) I ⟨ι,M,env,S,E,by rw[e1];exactλJ H' ι' x S' o=>⟨ι',x,S',o⟩⟩) λv s1 h1=>aP h1 λitv s2 h2=>?_;obtain⟨it,fp,tn,J,H2,rfl,I2,T,st2,f2,ι2,x2,S2,ok⟩:=h2;refine ZkD (own:=own) (g:=g) (ts:=ts) (f:=f) O hc hb I2 T st2 f2 S2 (E.mono x2) ok (h.up x2) (λacc C=>compPost (ao X.prog X.w) X.A X.xe Ye (EP X pins σ Q) acc C) ?_;intro acc C s' m H' hn hf I' hq;obtain⟨f0,f1,f2',f3,f4,f5⟩:=hf;exact⟨m,hn,λh' sb=>⟨.ref acc,H',I'.turned (t':=s'.toks) (λb o hb e=>(sb.2 b hb).trans e) f0 f1 f3 f4 f5,rfl,hq⟩⟩
end
theorem mj{k:Nat}(r:cL k A):A.units+80<iH:=by have:=r.un;exact lC 1 0x2502b0c12c82b110d0cc11 T1 this
noncomputable def Its(x:aj):It:=⟨λi _=>i<x.cps.size,λi H y H'=>H'=H/\∃c,x.cps[i]?=Ya c/\y= .str ⟨#[c]⟩,λi _=>i=x.cps.size⟩
theorem Znn{P:Y3}{w:aO}{tg:Expr}{it:Yq}{x:aj}{t:fj}{ty:String}(W:∀A':bB,A'.handled=Ye->Walks P w A' it [it] [it] x.cps.size (SignAt x) (λi h=>h.IsStrIter it ty x t i))(hs:∀(A:bB) (i:Nat) (s:Yf) (Q:Yd->Yf->Prop) (E:Yd->Yf->Prop),s.heap.IsStrIter it ty x t i->Q (.ref it) s->Y8 (ao P w) A (zq (.ref it)) Q E s)(hty:["enumerate","zip","dict_itemiterator","dict_reverseitemiterator","odict_iterator","itertools.zip_longest","itertools.pairwise"].contains ty=false):Turn P w K tg (Its x) [it] it (λi h=>h.IsStrIter it ty x t i)where
 mem:=by simp
 obj:=λi h st b hb=>by
  have e:b=it:=by simpa using hb
  subst e;obtain⟨o,e,c,d⟩:=st;exact⟨o,e,λv z=>by rw[d]at z;cases z⟩
 keep:=λi h h' st k=>let⟨o,e,r⟩:=st;⟨o,k it (by simp) o e,r⟩
 item:=by intro X hP hw hK hc i pins s σ H E I hf st hg;subst hP hw hK;obtain⟨f0,f1,f2,f3,f4,f5⟩:=hf it (by simp);refine(W X.A (I.ok.hd hc)).item i s _ _ hg st λv h' tk hv st' kk=>?_;obtain⟨c,u,hx,rfl⟩:=hv;have I1:Inv X pins σ H {s with heap:=h',toks:=tk}:=I.turned (λb o hb e=>kk b o (by simpa using hb) e) f0 f1 f3 f4 f5;obtain⟨o,e,cc,d⟩:=id st';exact⟨_,rfl,Jr (s:={s with heap:=h',toks:=tk}) e cc d hty ⟨.str ⟨#[c]⟩,H,I1,⟨u,rfl⟩,⟨rfl,c,hx,rfl⟩,st',λb hb=>(hf b hb).1⟩⟩
 done:=by intro X hP hw hK hc i pins s σ H E I hf st hg;subst hP hw hK;obtain⟨f0,f1,f2,f3,f4,f5⟩:=hf it (by simp);have e:i=x.cps.size:=hg;subst e;exact(W X.A (I.ok.hd hc)).done s _ _ st λh' tk kk=>⟨rfl,I.turned (λb o hb e=>kk b o (by simpa using hb) e) f0 f1 f3 f4 f5⟩
 self:=hs
section
variable {X:Cx} {tg e o:Expr} {es:List Expr} {pos p apos cpos:aY} {f:E3} {gl:cN}
theorem ZsM(h:C3 X e f):PI X tg e (λσ H R=>oA X.K f σ H λx H1=>∃z:aj,x= .str z/\z.length<=SZ/\∀J,(∀ι,rY X.K H1 ι ⟨z.cps.toList.map λc=>.str [c],Ye⟩ J)->R J H1):=by
 intro pins s σ H R I hw;refine aP (h pins s σ H _ I hw) λv s1 ak=>?_;obtain⟨x,H1,I1,r1,z,ex,hz,q⟩:=ak;subst ex;obtain⟨t,rfl⟩:=r1;have key:∀(ty:String) (o:aB),(∀A':bB,A'.handled=Ye->Walks X.prog X.w A' s1.heap.objs.size [s1.heap.objs.size] [s1.heap.objs.size] z.cps.size (SignAt z) (λi h=>h.IsStrIter s1.heap.objs.size ty z t i)) ->
   (∀(A:bB) (i:Nat) (s:Yf) (Q:Yd->Yf->Prop) (E:Yd->Yf->Prop),s.heap.IsStrIter s1.heap.objs.size ty z t i->Q (.ref s1.heap.objs.size) s->Y8 (ao X.prog X.w) A (zq (.ref s1.heap.objs.size)) Q E s) ->
   ["enumerate","zip","dict_itemiterator","dict_reverseitemiterator","odict_iterator","itertools.zip_longest","itertools.pairwise"].contains ty=false->(s1.heap.push o).IsStrIter s1.heap.objs.size ty z t 0 ->
   PIE X pins σ tg R (.ref s1.heap.objs.size) {s1 with heap:=s1.heap.push o}:=by
  intro ty o W hs hty st;refine⟨s1.heap.objs.size,[s1.heap.objs.size],_,_,H1,rfl,I1.kept (t':=s1.toks) λb o e=>Yh _ e,Znn W hs hty,st,λb hb=>?_,q _ λι=>?_⟩
  .have e:b=s1.heap.objs.size:=by simpa using hb
   subst e;exact I1.wU (Yt _) (I1.hok.fresh (Yt _))
  .intro i H2 ι2 M2 x S _;refine⟨λd hd=>?_,λhl=>?_⟩
   .rw[gO]at hd;cases hq:z.cps.toList[i]? with
    |none=>rw[hq]at hd;cases hd|some c=>
     rw[hq]at hd;have hd':D.str [c]=d:=by simpa using hd
     subst hd';have hi:i<z.cps.size:=by have:=(Yn.mp hq).1;simpa using this
     refine⟨hi,λy H3 hy=>⟨hy.1,?_⟩⟩;obtain⟨_,c',hc',rfl⟩:=hy;have:c'=c:=by rw[←Oj,hq]at hc';exact(eE hc').symm
     subst this;exact Rep.str
   .show i=z.cps.size;rw[hl];simp
 cases ha:z.cps.all (· <128)
 .exact wpAny_pyIter_wide ha (key "str_iterator" _ (λA' hA=>Walks.strWide hA _ z t) (λ_ _ _ _ _ st h=>wpAny_pyIter_striter_wide st h) (by decide) ⟨_,Yw _ rfl,rfl,rfl⟩)
 .exact wpAny_pyIter_ascii ha (key "str_ascii_iterator" _ (λA' hA=>Walks.strAscii hA _ z t) (λ_ _ _ _ _ st h=>wpAny_pyIter_striter_ascii st h) (by decide) ⟨_,Yw _ rfl,rfl,rfl⟩)
theorem J7(h:C3 X e f):CI X tg e (iK f):=ZsW h (ZsM h)
theorem Fg{T:String}{ty:D->Store->Bool}{m:D->List D->Store->R3 D}(hty:∀H ι M a x,aA K H ι M->Rep K H ι a x->ty a M=true->xU K T x H)(σ:St)(H:Hp)(Q:VK)(h:oA K (aZ ty m f gl) σ H Q):ZV K T (rM K m) (oA K f) (QR K gl) σ H Q:=by
 obtain⟨ι,M,env,S,E,h⟩:=h;obtain⟨a,M1,e1,h⟩:=Zw.bind h;refine⟨ι,M,env,S,E,?_⟩;rw[e1];intro v H1 ι1 x1 S1 r1;by_cases ht:ty a M1=true
 .rw[if_pos ht]at h;obtain⟨ds,M2,e2,h⟩:=Zw.bind h;refine⟨hty _ _ _ _ _ S1 r1 ht,ι1,M1,env,S1,E.mono x1,?_⟩;rw[e2];intro vs H2 ι2 x2 S2 r2;exact⟨ι2,M2,a,ds,S2,r1.mono x2,r2,(h.up x1).up x2⟩
 .rw[if_neg ht]at h;exact h.elim
theorem J8(H:Hp)(ι:List Yq)(M:Store)(a:D)(x:V)(_:aA K H ι M)(r:Rep K H ι a x)(h:bC a M=true):xU K "str" x H:=by
 cases a with
 |str z=>rw[r.str_inv];rfl|_=>exact ft h
theorem Zm9(H:Hp)(ι:List Yq)(M:Store)(a:D)(x:V)(S:aA K H ι M)(r:Rep K H ι a x)(h:j7 a M=true):xU K "list" x H:=by
 cases a with
 | ref n=>
  rw[Eu]at h;cases hn:M[n]? with
  |none=>rw[hn]at h;exact ft h|some o=>
   cases o with
   |dct _=>rw[hn]at h;exact ft h|cR _=>rw[hn]at h;exact ft h|ins _ _=>rw[hn]at h;exact ft h|lst xs=>obtain⟨p,hp,rfl⟩:=r.d_;obtain⟨vs,e,_⟩:=S.obj n _ p hn hp;exact .inl ⟨rfl,vs,bQ.of e⟩
 |_=>exact ft h
theorem _root_.L2.mQ.imp{id:String}{r r':V->List V->Hp->VK->Prop}(h:mQ X id r)(i:∀x xs H Q,r' x xs H Q->r x xs H Q):mQ X id r':=λpins s σ H x xs v us Q I rx rs q=>h pins s σ H x xs v us Q I rx rs (i x xs H Q q)
theorem Zom:mQ X "list.append" (rM X.K pK):=mQ.imp (r:=ZX) ZZ λx xs H Q ak=>by
 obtain⟨ι,M,a,ds,S,ra,rd,h⟩:=ak;cases a with
 | ref n=>
  cases ds with
  |nil=>exact h.elim|cons d ds=>
   cases ds with
   |cons _ _=>exact h.elim|nil=>
    simp only[JN]at h;cases hn:M[n]? with
    |none=>simp only[hn]at h;exact h.elim|some o=>
     cases o with
     |dct _=>simp only[hn]at h;exact h.elim|cR _=>simp only[hn]at h;exact h.elim|ins _ _=>simp only[hn]at h;exact h.elim|lst z=>
      simp only[hn]at h;split at h
      .rename_i hz;obtain⟨p,hp,rfl⟩:=ra.d_;obtain⟨v,ws,rfl,r1,r2⟩:=rd.cons_inv;have:=r2.nil_inv;subst this;obtain⟨vs,e,rv⟩:=S.obj n _ p hn hp;obtain⟨x2,S2⟩:=S.Cv (.inr (.inl ⟨_,e⟩)) hp (rv.append (Zt.cons r1 Zt.nil));exact⟨p,vs,v,rfl,rfl,e,by rw[rv.length];exact Yz hz lY,h _ _ _ x2 S2 Rep.non⟩
      .exact h.elim
 |_=>exact h.elim
theorem ZfP(ho:C3 X o f)(ha:CA X (e::es) gl)(hbase:oW o "append" X.env (aF o X.env)=aF o X.env:=by rfl)(hfew:((bN cpos (Yp (e::es) X.env)).all (λx=>!x.1)&&(jO cpos (jN [] X.env)).all (λx=>x.1.isSome)
   &&decide ((e::es).length+([]:List Keyword).length+(if([]:List Keyword).isEmpty then 0 else 1)<30))=true:=by rfl)(hline:(apos.endLine==cpos.line)=true:=by rfl)(hs:Yp (e::es) X.env=(false,aF e X.env)::Yp es X.env:=by rfl)(hplain:(bN cpos (Yp es X.env)).any (·.1)=false:=by rfl):
  C3 X (.Call (.Attribute o "append" apos) (e::es) [] cpos) (aZ j7 pK f gl):=
 (Er WK PySem.F.slot_list_append PySem.F.type_list_append Zom ho ha hbase hfew hline hs hplain).imp (Fg Zm9)
theorem Zqn(x y:List Nat):Xp (⟨x.toArray⟩:aj) ⟨y.toArray⟩=y.isPrefixOf x:=by
 unfold Xp Builtin.Str.subAt;simp only[jW,Yl,q_];rw[Dt];simp only[gQ,decide_eq_true_eq,beq_iff_eq,List.isPrefixOf_iff_prefix];constructor
 .rintro⟨_,h⟩;have h':=congrArg zM h;simp at h';rw[Vo];exact h'.symm
 .intro h;refine⟨h.length_le,?_⟩;rw[Vo]at h;apply Om.mp;simp;exact h.symm
theorem m_startswith:mQ X "str.startswith" (rM X.K pJ):=by
 intro pins s σ H x xs v us Q I rx rs h;obtain⟨ι,M,a,ds,S,ra,rd,h⟩:=h;cases a with
 | str z=>
  cases ds with
  |nil=>exact h.elim|cons d ds=>
   cases ds with
   |cons _ _=>cases d<;>exact h.elim|nil=>
    cases d with
    | str y=>
     simp only[Ah]at h;split at h
     .have:=ra.str_inv;subst this;obtain⟨w',ws,rfl,r1,r2⟩:=rd.cons_inv;have:=r2.nil_inv;subst this;have:=r1.str_inv;subst this;obtain⟨t,rfl⟩:=rx;obtain⟨u,rfl,ru⟩:=vals1 rs;obtain⟨t',rfl⟩:=ru;refine SC.startswith ?_;rw[Zqn];exact⟨.bl _,H,I,rfl,Zw.ok h S Rep.bl⟩
     .exact h.elim
    |_=>exact h.elim
 |_=>exact h.elim
theorem Zd8(ho:C3 X o f)(ha:CA X (e::es) gl)(hbase:oW o "startswith" X.env (aF o X.env)=aF o X.env:=by rfl)(hfew:((bN cpos (Yp (e::es) X.env)).all (λx=>!x.1)&&(jO cpos (jN [] X.env)).all (λx=>x.1.isSome)
   &&decide ((e::es).length+([]:List Keyword).length+(if([]:List Keyword).isEmpty then 0 else 1)<30))=true:=by rfl)(hline:(apos.endLine==cpos.line)=true:=by rfl)(hs:Yp (e::es) X.env=(false,aF e X.env)::Yp es X.env:=by rfl)(hplain:(bN cpos (Yp es X.env)).any (·.1)=false:=by rfl):
  C3 X (.Call (.Attribute o "startswith" apos) (e::es) [] cpos) (aZ bC pJ f gl):=
 (Er Iz PySem.F.slot_str_startswith PySem.F.type_str_startswith m_startswith ho ha hbase hfew hline hs hplain).imp (Fg J8)
theorem Zuj:bf X (gK .In) (r2 X.K λa b M=>match a,b with| .str [c],.str y=>.ok (.bl (decide (c∈y))) M|_,_=>.bad):=bf.imp Zmr λx y H Q ak=>by
 obtain⟨ι,M,a,b,S,ra,rb,h⟩:=ak;cases a with
 | str z=>
  cases z with
  |nil=>cases b<;>exact h.elim|cons c z=>
   cases z with
   |cons _ _=>cases b<;>exact h.elim|nil=>
    cases b with
    |str y=>refine⟨_,_,ra.str_inv,rb.str_inv,?_⟩;have e:=Xn (⟨y.toArray⟩:aj) c;rw[show(⟨[c].toArray⟩:aj)=⟨#[c]⟩from rfl,e];exact Zw.ok h S Rep.bl|_=>exact h.elim
 |_=>cases b<;>exact h.elim
end
variable{items:Array Yd}
section
variable {X:Cx}
theorem wz(hu:X.A.units+80<iH):bf X (gK .NotEq) (r2 X.K dg):=by
 intro pins s σ H x y v u Q I rx ry h;obtain⟨ι,M,a,b,S,ra,rb,h⟩:=h;unfold dg at h;cases q:qz a b M with
 |none=>rw[q]at h;exact h.elim|some k=>rw[q]at h;exact(Zl7 hu I S ra rb rx ry q).2 X.prog X.w X.xe _ ⟨.bl (!k),H,I,rfl,Zw.ok h S Rep.bl⟩
theorem ZjI(r:Rep K H ι d v)(h:eY d=true):rJ v=true:=by
 cases d with
 |non=>rw[r.jJ];rfl|bl b=>rw[r.g_];rfl|int i=>rw[r.int_inv];rfl|str x=>rw[r.str_inv];rfl
 |_=>exact ft h
theorem ZpS(x y:List Nat):((⟨x.toArray⟩:aj)==⟨y.toArray⟩)=(x==y):=by rw[Dt];simp
theorem ZqC{e:D}{w:V}(r:Rep K H ι d v)(q:Rep K H ι e w)(h:eY d=true)(h':eY e=true):ul v w=fD d e:=by
 cases d with
 |non=>rw[r.jJ];cases e with
  |non=>rw[q.jJ];rfl|bl _=>rw[q.g_];rfl|int _=>rw[q.int_inv];rfl|str _=>rw[q.str_inv];rfl
  |_=>exact ft h'
 |bl _=>rw[r.g_];cases e with
  |non=>rw[q.jJ];rfl|bl _=>rw[q.g_];rfl|int _=>rw[q.int_inv];rfl|str _=>rw[q.str_inv];rfl
  |_=>exact ft h'
 |int _=>rw[r.int_inv];cases e with
  |non=>rw[q.jJ];rfl|bl _=>rw[q.g_];rfl|int _=>rw[q.int_inv];rfl|str _=>rw[q.str_inv];rfl
  |_=>exact ft h'
 |str _=>rw[r.str_inv];cases e with
  |non=>rw[q.jJ];rfl|bl _=>rw[q.g_];rfl|int _=>rw[q.int_inv];rfl|str _=>rw[q.str_inv];exact ZpS _ _
  |_=>exact ft h'
 |_=>exact ft h
theorem ZlO{K:Yb}{H:Hp}{ι:List Yq}{d:D}{v:V}(r:Rep K H ι d v)(h:eY d=true):∀{ds:List D} {vs:List V},Zt K H ι ds vs->ds.all eY=true->vs.all rJ=true/\inV v vs=ds.any λy=>fD y d
 |[],_,q,_=>by rw[q.nil_inv];exact⟨rfl,rfl⟩|e::ds,_,q,hd=>by obtain⟨w,ws,rfl,r1,r2⟩:=q.cons_inv;rw[o7,gQ]at hd;obtain⟨h1,h2⟩:=ZlO r h r2 hd.2;refine⟨by rw[o7,ZjI r1 hd.1,h1];rfl,?_⟩;unfold inV at h2 ⊢;rw[qm,qm,h2,ZqC r1 r hd.1 h]
inductive InK(a b:D)(k:Bool):Prop
 |tup (ys:List D):b= .tup ys->(ys.any λy=>fD y a)=k->eY a=true->ys.all eY=true->InK a b k
 |str (c:Nat) (y:List Nat):a= .str [c]->b= .str y->decide (c∈y)=k->InK a b k
theorem inK{a b:D}{k:Bool}(h:inD a b=Ya k):InK a b k:=by
 cases b with
 |tup ys=>exact have w:=Q9 h;.tup ys rfl w.1 w.2.1 w.2.2|str y=>
  cases a with
  | str z=>cases z with
   |nil=>exact iu h|cons c z=>cases z with
    |nil=>exact .str c y rfl rfl (eE h)|cons _ _=>exact iu h
  |_=>exact iu h
 |_=>exact iu h
theorem ZnD{a:D}{ys:List D}{x y:V}(n:Bool)(ra:Rep K H ι a x)(rb:Rep K H ι (.tup ys) y)(fa:eY a=true)(fs:ys.all eY=true)(q:Q (.bl (if n then !(ys.any λy=>fD y a)else ys.any λy=>fD y a)) H):Qi K n x y H Q:=by obtain⟨p,vs,e,s,r⟩:=rb.jr;obtain⟨h1,h2⟩:=ZlO ra fa r fs;exact⟨p,vs,e,.inr s,ZjI ra fa,h1,by rw[h2];exact q⟩
theorem Rj(hu:X.A.units+80<iH):bf X (gK .In) (r2 X.K jy):=bf.imp (bf.or Zuj ZmT) λx y H Q ak=>by
 obtain⟨ι,M,a,b,S,ra,rb,h⟩:=ak;unfold jy at h;cases q:inD a b with
 |none=>rw[q]at h;exact h.elim|some k=>
  rw[q]at h;rcases inK q with⟨ys,eb,ek,fa,fs⟩|⟨c,z,ea,eb,ek⟩
  .rw[eb]at rb;rw[←ek]at h;exact .inr (ZnD false ra rb fa fs (Zw.ok h S Rep.bl))
  .rw[ea]at ra;rw[eb]at rb;rw[←ek]at h;exact .inl ⟨ι,M,_,_,S,ra,rb,h⟩
theorem ZoR:bf X (gK .NotIn) (r2 X.K λa b M=>match a,b with| .str [c],.str y=>.ok (.bl (!decide (c∈y))) M|_,_=>.bad):=bf.imp Zi1 λx y H Q ak=>by
 obtain⟨ι,M,a,b,S,ra,rb,h⟩:=ak;cases a with
 | str z=>
  cases z with
  |nil=>cases b<;>exact h.elim|cons c z=>
   cases z with
   |cons _ _=>cases b<;>exact h.elim|nil=>
    cases b with
    |str y=>refine⟨_,_,ra.str_inv,rb.str_inv,?_⟩;have e:=Xn (⟨y.toArray⟩:aj) c;rw[show(⟨[c].toArray⟩:aj)=⟨#[c]⟩from rfl,e];exact Zw.ok h S Rep.bl|_=>exact h.elim
 |_=>cases b<;>exact h.elim
theorem ZpU(hu:X.A.units+80<iH):bf X (gK .NotIn) (r2 X.K Et):=bf.imp (bf.or ZoR Zii) λx y H Q ak=>by
 obtain⟨ι,M,a,b,S,ra,rb,h⟩:=ak;unfold Et at h;cases q:inD a b with
 |none=>rw[q]at h;exact h.elim|some k=>
  rw[q]at h;rcases inK q with⟨ys,eb,ek,fa,fs⟩|⟨c,z,ea,eb,ek⟩
  .rw[eb]at rb;rw[←ek]at h;exact .inr (ZnD true ra rb fa fs (Zw.ok h S Rep.bl))
  .rw[ea]at ra;rw[eb]at rb;rw[←ek]at h;exact .inl ⟨ι,M,_,_,S,ra,rb,h⟩
theorem ZoI(x:List Nat)(n:Nat)(a:List Nat):(Yj n x.toArray).foldl (· ++ ·) a.toArray=(a++(Yj n x).flatten).toArray:=by
 induction n generalizing a with
 |zero=>simp|succ n ih=>rw[tR,Ny,tR,xJ];have:=ih (a++x);simp only[List.append_toArray]at this ⊢;rw[this];simp
theorem Zs9(x:List Nat)(k:Int):Txt.mul (⟨x.toArray⟩:aj) k=⟨(Yj k.toNat x).flatten.toArray⟩:=by
 unfold Txt.mul;split
 .rename_i h;have:k.toNat=0:=Y9 (kZ (Int.toNat_of_nonpos (iN [] [_] 1 235446417 T1 h))) (jU _);rw[this];rfl
 .split
  .rename_i h1 h2;simp only[vD,beq_iff_eq,jW,Yl]at h2;rcases h2 with h2|h2
   .subst h2;simp
   .have:x=[]:=Dh h2;subst this;simp
  .have:=ZoI x k.toNat [];rw[tU]at this;exact congrArg Str.mk this
theorem Zt.repl(r:Zt K H ι ds vs):∀k:Nat,Zt K H ι (Yj k ds).flatten (Yj k vs).flatten
 |0=>Zt.nil|k+1=>by rw[tR,tR,xJ,xJ];exact r.append (Zt.repl r k)
theorem qN:bf X (ig .Mult) (r2 X.K cZ):=by
 have hs:bf X (ig .Mult) (λx y H Q=>∃(z:List Nat) (k:Int),x= .str ⟨z.toArray⟩/\y= .int k/\z.length*k.toNat<=1000000/\k<1000000/\ -1000000<k/\Q (.str ⟨(Yj k.toNat z).flatten.toArray⟩) H):=by
  intro pins s σ H x y v u Q I rx ry h;obtain⟨z,k,rfl,rfl,h1,h2,h3,q⟩:=h;obtain⟨t,rfl⟩:=rx;obtain⟨t',rfl⟩:=ry;refine SB.mul ⟨?_,λh4 h5=>?_,λh4 h5=>?_⟩ λt'' tk=>?_
  .simp;omega
  .simp only[jW,Yl];simp at h4 h5;have hk:2<=k:=by
    simp only[jW,Yl]at h5;omega
   have e:(k.toNat:Int)=k:=Int.le_antisymm (Dy (tY (iN [] [_] 1 3892452225 T1 hk))) ((Dw _));have hm:(z.length:Int)*k<=1000000:=by have h1':((z.length*k.toNat:Nat):Int)<=1000000:=zG.mpr h1;rw[Oa,e]at h1';exact h1'
   have hd:(z.length:Int)<=9223372036854775807 / k:=Int.le_ediv_of_mul_le (iN [] [_] 1 3909229441 T1 hk) (by omega);show¬((z.length:Int)>(2^63-1) / k);have e3:((2:Int)^63-1)=9223372036854775807:=by decide
   rw[e3];exactλz=>iN [_] [_] 2 6599352549521 T1 z hd
  .unfold Oe;simp only[jW,Yl,decide_eq_false_iff_not];have hsz:(1000000:Nat)<=bj:=lY;exactλz=>lB 3 0x6f42405b1010f42405b011011 T1 z hsz h1
  .rw[Zs9];exact⟨.str _,H,I.tok _,⟨_,rfl⟩,q⟩
 refine bf.imp (bf.or Zri (bf.or hs ZrH)) λx y H Q ak=>?_;obtain⟨ι,M,a,b,S,ra,rb,h⟩:=ak;cases a with
 | int i=>cases b with
  |int j=>obtain⟨hm,h⟩:=yh h;refine .inl ⟨i,j,ra.int_inv,rb.int_inv,?_,Zw.ok h S Rep.int⟩;simp only[vV,vD,gQ,decide_eq_true_eq]at hm;exact hm|_=>exact h.elim
 | str z=>cases b with
  |int k=>obtain⟨hz,h⟩:=yh h;exact .inr (.inl ⟨z,k,ra.str_inv,rb.int_inv,hz.1,hz.2.1,hz.2.2,Zw.ok h S Rep.str⟩)|_=>exact h.elim
 | ref n=>cases b with
  |int k=>
   have h:Zw X.K H ι Q (Q3 M[n]? λx=>@ite _ (x.length*k.toNat<=SZ/\k<1000000/\ -1000000<k) (Ys _) (alloc (.lst (Yj k.toNat x).flatten) M) .bad):=h;obtain⟨z,hn,h⟩:=Zli h;obtain⟨hz,h⟩:=yh h;obtain⟨p,hp,e'⟩:=ra.d_;obtain⟨vs,e,r⟩:=S.obj n _ p hn hp;refine .inr (.inr ⟨p,k,vs,e',rb.int_inv,e,?_,?_,by rw[r.length];exact Ym hz.1 lY,λq hq=>?_⟩)
   .exact Int.le_trans (by decide) (Il hz.2.2)
   .exact Wj hz.2.1 (by decide)
   obtain⟨x2,S2,r2⟩:=S.lst hq (Zt.repl r k.toNat);exact h _ _ _ x2 S2 r2
  |_=>exact h.elim
 |_=>cases b<;>exact h.elim
theorem ZlR(n d:Nat)(hd:d<=n)(o:Option Int):(match o with|none=>(d:Int)|some i=>max 0 (dm (if i<0 then i+(n:Int)else i) (n:Int)))=((aG n d o:Nat):Int):=by
 cases o with
 |none=>rfl|some v=>
  show max 0 (dm (if v<0 then v+(n:Int)else v) (n:Int))=(((if v<0 then(v+(n:Int)).toNat else dm v.toNat n):Nat):Int);by_cases h:v<0
  .rw[if_pos h,if_pos h];exact Pg v n h
  .rw[if_neg h,if_neg h];exact Ph v n h
theorem Zgj(lo hi:Option Int)(n:Nat):Ip lo hi 1 n=(kW (aG n n hi-aG n 0 lo)).map (λk=>aG n 0 lo+k):=by
 have e1:=ZlR n 0 (jU _) lo;have e2:=ZlR n n (Yt _) hi;have key:Ip lo hi 1 n=sliceRange ((aG n 0 lo:Nat):Int) ((aG n n hi:Nat):Int) 1:=by rw[←e1,←e2];simp only[Ip,show((1:Int)>0)=True from by simp,if_true];cases lo<;>cases hi<;>rfl
 rw[key];generalize aG n 0 lo=a;generalize aG n n hi=b;simp only[sliceRange,show((1:Int)>0)=True from by simp,if_true];by_cases hlt:(a:Int)<b
 .have e3:(((b:Int)-a+1-1) / 1).toNat=b-a:=by first|exact Y9 (iN [_,_,_,_] [_] 3 0x230038a112c001aa1808fcf001d81 T1 (Int.mul_ediv_self_le (by decide)) (o_ _ _) (tY (iN [_,_] [_] 2 0xe8a001dcaa0818fcf91180891 T1 hlt (Wi (by decide))))) (iN [_,_,_,_] [_] 3 0x230013c2128081a001dcaa1808fcf91 T1 (Wi (by decide)) (Dw _) (nQ (iN [_,_] [] 1 4296542353 T1 hlt)))|(simp;done)|(simp;omega)
  simp only[hlt,if_true,e3];refine Vw λk _=>?_;exact Y9 (iN [_,_,_] [] 1 0x21c002801d18c08a1 T1 (tY (iN [_,_] [] 0 103109659880 T1))) (iN [_,_,_] [] 1 0x210c0281801d08c81 T1 (Dw _))
 .have:b-a=0:=Y9 (kZ (V8 (iN [_,_] [] 1 270010577 T1 hlt))) (jU _);simp[hlt,this]
theorem Jy(n d:Nat)(hd:d<=n)(o:Option Int):aG n d o<=n:=by
 cases o with
 |none=>exact hd|some v=>simp only[aG];split <;>omega
theorem Zkw(z:List Nat)(lo hi:Option Int)(l u:Option (Int×fj))(hl:l.map (·.1)=lo)(hu:u.map (·.1)=hi):
  (if((1:Int)==1&&(xg ⟨z.toArray⟩ l u Ye).length==(⟨z.toArray⟩:aj).length)=true then(⟨z.toArray⟩:aj)else⟨((xg ⟨z.toArray⟩ l u Ye).filterMap ((⟨z.toArray⟩:aj).cps[·]?)).toArray⟩)=⟨(cutD z lo hi).toArray⟩:=by
 have e0:xg ⟨z.toArray⟩ l u Ye=(kW (aG z.length z.length hi-aG z.length 0 lo)).map (λk=>aG z.length 0 lo+k):=by unfold xg;rw[hl,hu];simp only[jW,Yl];exact Zgj lo hi z.length
 have hb:=Jy z.length z.length (Yt _) hi;rw[e0];have pick:((kW (aG z.length z.length hi-aG z.length 0 lo)).map (λk=>aG z.length 0 lo+k)).filterMap ((⟨z.toArray⟩:aj).cps[·]?)=cutD z lo hi:=by
  unfold cutD;by_cases hab:aG z.length 0 lo<=aG z.length z.length hi
  .have h:=StrLaws.picks z (aG z.length z.length hi-aG z.length 0 lo) (aG z.length 0 lo) (lD 2 82120338080600065 T1 hb (nQ hab));simpa using h
  .have:aG z.length z.length hi-aG z.length 0 lo=0:=Y9 (kZ (V8 (lB 1 1052737 T1 hab))) (jU _);rw[this];simp
 rw[pick];split
 .rename_i hc;simp only[Yg,VH,jW,Yl,gQ,beq_iff_eq]at hc;have hc2:=hc.2;have h0:aG z.length 0 lo=0\/z.length=0:=by omega
  have:cutD z lo hi=z:=by
   unfold cutD;rcases h0 with h0|h0
   .rw[h0,V2,Hx (by exact lD 3 0x3102001e3c2011031 T1 hc2 (o_ _ _) (Ds _ _))]
   .have:z=[]:=Dh h0;subst this;simp
  rw[this]
 .rfl
theorem Zrh:jw X (λx lo hi H Q=>∃z:List Nat,x= .str ⟨z.toArray⟩/\z.length<=SZ/\Q (.str ⟨(cutD z lo hi).toArray⟩) H):=by
 intro pins s σ H x v vl vu lo hi sl Q I rx hs pl pu h;obtain⟨z,rfl,hz,q⟩:=h;obtain⟨t,rfl⟩:=rx;have part:∀{v:Yd} {o:Option Int},IsPart v o->∃p:Option (Int×fj),v=partValue p/\p.map (·.1)=o:=by
  intro v o h;cases h with
  |none=>exact⟨Ye,rfl,rfl⟩|int i t=>exact⟨Ya (i,t),rfl,rfl⟩
 obtain⟨l,rfl,hl⟩:=part pl;obtain⟨u,rfl,hu⟩:=part pu;refine⟨"str",_,PySem.F.slot_str_getitem.lookup,zj _ _ _,?_⟩;refine wpAny_getItem_str_slice (l:=l) (u:=u) (st:=Ye) hs rfl ?_;unfold sliceMade;refine post_val_or_made (λ_=>?_) λt' k=>?_
 .show((xg ⟨z.toArray⟩ l u Ye).filterMap ((⟨z.toArray⟩:aj).cps[·]?)).toArray.size<=bj;rw[Yl];refine Ym (List.length_filterMap_le _ _) ?_;show(Ip (l.map (·.1)) (u.map (·.1)) 1 (⟨z.toArray⟩:aj).length).length<=bj;rw[Zgj];simp only[Yg,VH,jW,Yl];have:=Jy z.length z.length (Yt _) (u.map (·.1));have:=lY;omega
 .have e:=Zkw z lo hi l u hl hu;have e':(if(((Ye:Option (Int×fj)).map (·.1)).getD 1==1&&(xg ⟨z.toArray⟩ l u Ye).length==(⟨z.toArray⟩:aj).length)=true then(⟨z.toArray⟩:aj)else⟨((xg ⟨z.toArray⟩ l u Ye).filterMap ((⟨z.toArray⟩:aj).cps[·]?)).toArray⟩)=⟨(cutD z lo hi).toArray⟩:=e;rw[e'];exact⟨.str _,H,I.tok _,⟨_,rfl⟩,q⟩
theorem Zfd{prog:Y3}{w:aO}{t sl:Yq}{vl vu:Yd}{lo hi:Option Int}{Q:Yd->Yf->Prop}(ht:IsTup s.heap t items)(hs:s.heap.IsSliceOf sl vl vu .none)(pl:IsPart vl lo)(pu:IsPart vu hi)(hw:HT.aG items.size 0 lo=0/\HT.aG items.size items.size hi=items.size)(h:Q (.ref t) s):Y8 (ao prog w) A (oZ (.ref t) (.ref sl)) Q E s:=by
 obtain⟨os,hos,hcs,hds⟩:=id hs;have hTs:s.TypeIs (.ref sl) "slice":=⟨os,hos,hcs⟩;unfold oZ
 try with_reducible refine jb ?_
 first|refine Yc (Yr ?_)|skip
 refine Yc (MN ht.typeIs (by decide) ?_);refine Yc (u6 (name:=jV "__getitem__") ht.typeIs Ir
  (u_ Ir ht.typeIs Wt ?_ (Wv _ _)))
 show Y8 _ _ (W4 (.ref t)>>=_) _ _ s;refine Yc (tupleItemsOf_ ht ?_);refine Yc (Hi hTs ?_);rw[if_pos (by decide)];refine Yc (HT.Te hs pl pu ?_);have AdB:(((HT.aG items.size 0 lo:Nat):Int)==0&&(1:Int)==1&&(HT.aG items.size items.size hi-HT.aG items.size 0 lo)==items.size)=true:=by rw[hw.1,hw.2];simp
 show Y8 _ _ (if(((HT.aG items.size 0 lo:Nat):Int)==0&&(1:Int)==1&&(HT.aG items.size items.size hi-HT.aG items.size 0 lo)==items.size)=true then _ else _) _ _ s;rw[if_pos AdB];unfold Builtin.Tuple.tupleIsExact;refine Yc (Yc (Hi ht.typeIs (Yr ?_)));rw[if_pos (by decide)];exact Yc (Hl (Yr ⟨_,rfl,Yr h⟩))
theorem Zql:jw X (λx lo hi H Q=>∃a xs,x= .ref a/\cJ X.K H a xs/\(HT.aG xs.length 0 lo=0/\HT.aG xs.length xs.length hi=xs.length)/\Q (.ref a) H):=by
 intro pins s σ H x v vl vu lo hi sl Q I rx hs pl pu h;obtain⟨a,xs,rfl,hx,hw,q⟩:=h;cases rx;obtain⟨its,r,ht,hz⟩:=I.tuple hx;have hlen:its.toArray.size=xs.length:=by rw[Yl];exact r.length.symm
 refine⟨"tuple",_,PyProof.Rows.slot_tuple_getitem.lookup,ht.typeIs,?_⟩;exact Zfd ht hs pl pu (by rw[hlen];exact hw) ⟨.ref a,H,I,rfl,q⟩
theorem gZ:jw X (rS X.K):=jw.imp (jw.or (jw.or ZJ Zql) (jw.or Zpw Zrh)) λx lo hi H Q ak=>by
 obtain⟨ι,M,a,S,ra,h⟩:=ak;have ex:∀n d o,HT.aG n d o=aG n d o:=λn d o=>by cases o<;>rfl
 cases a with
 | tup ds=>
  simp only[lM,lO,lQ,lR]at h;obtain⟨p,vs,rfl,s,r⟩:=ra.jr;by_cases hw:aG ds.length 0 lo=0/\aG ds.length ds.length hi=ds.length
  .refine .inl (.inr ⟨p,vs,rfl,s,by rw[ex,ex,r.length];exact hw,?_⟩);have e:cutD ds lo hi=ds:=by unfold cutD;rw[hw.1,hw.2];simp
   rw[e]at h;exact Zw.ok h S (Rep.tup s r)
  .refine .inl (.inl ⟨p,vs,rfl,s,by rw[ex,ex,r.length];exact hw,λq hq=>?_⟩);obtain⟨x2,S2,r2⟩:=S.wV hq (Ra r lo hi);exact h _ _ _ x2 S2 r2
 |aH ds=>simp only[lM,lO,lQ,lR]at h;obtain⟨p,vs,rfl,s,r⟩:=ra.sZ;refine .inr (.inl ⟨p,vs,rfl,s.sq,λq hq=>?_⟩);obtain⟨x2,S2,r2⟩:=S.lst hq (Ra r lo hi);exact h _ _ _ x2 S2 r2|str z=>
  simp only[lM,lO,lQ,lR]at h;split at h
  .rename_i hz;exact .inr (.inr ⟨z,ra.str_inv,hz,Zw.ok h S Rep.str⟩)
  .exact h.elim
 | ref n=>
  simp only[lM,lO,lQ,lR]at h;cases hn:M[n]? with
  |none=>simp only[hn]at h;exact h.elim|some o=>
   cases o with
   |dct _=>simp only[hn]at h;exact h.elim|cR _=>simp only[hn]at h;exact h.elim|ins _ _=>simp only[hn]at h;exact h.elim|lst ds=>simp only[hn]at h;obtain⟨p,hp,rfl⟩:=ra.d_;obtain⟨vs,e,r⟩:=S.obj n _ p hn hp;refine .inr (.inl ⟨p,vs,rfl,bQ.of e,λq hq=>?_⟩);obtain⟨x2,S2,r2⟩:=S.lst hq (Ra r lo hi);exact h _ _ _ x2 S2 r2
 |_=>exact h.elim
theorem wA{xs:List V}(r:Zt K H ι [d] xs):∃x,xs=[x]/\Rep K H ι d x:=by obtain⟨v,ws,rfl,r1,r2⟩:=r.cons_inv;have:=r2.nil_inv;subst this;exact⟨v,rfl,r1⟩
theorem jk:cg X (.builtin "len") (rB X.K a_):=cg.imp Zox λxs H Q ak=>by
 obtain⟨ι,M,ds,S,rd,h⟩:=ak;cases ds with
 |nil=>exact h.elim|cons d ds=>
  cases ds with
  |cons _ _=>cases d<;>exact h.elim|nil=>
   obtain⟨x,rfl,r⟩:=wA rd;cases d with
   |tup z=>obtain⟨p,vs,rfl,s,r'⟩:=r.jr;exact⟨_,vs.length,rfl,.inr ⟨vs,s,rfl⟩,by rw[r'.length];exact Zw.ok h S Rep.int⟩|aH z=>obtain⟨p,vs,rfl,s,r'⟩:=r.sZ;exact⟨_,vs.length,rfl,.inl ⟨vs,s.sq,rfl⟩,by rw[r'.length];exact Zw.ok h S Rep.int⟩|str z=>
    simp only[z_,Aa,Ab,rP]at h;split at h
    .rename_i hz;have:=r.str_inv;subst this;refine⟨_,z.length,rfl,⟨?_,?_⟩,Zw.ok h S Rep.int⟩
     .show z.toArray.size<=bj;rw[Yl];exact Ym hz lY
     .show z.length=z.toArray.size;rw[Yl]
    .exact h.elim
   | ref n=>
    cases hn:M[n]? with
    |none=>rw[rP,hn]at h;exact h.elim|some o=>
     cases o with
     |dct _=>rw[rP,hn]at h;exact h.elim|cR _=>rw[rP,hn]at h;exact h.elim|ins _ _=>rw[rP,hn]at h;exact h.elim|lst z=>simp only[z_,Aa,Ab,rP,hn]at h;obtain⟨p,hp,rfl⟩:=r.d_;obtain⟨vs,e,r'⟩:=S.obj n _ p hn hp;exact⟨_,vs.length,rfl,.inl ⟨vs,bQ.of e,rfl⟩,by rw[r'.length];exact Zw.ok h S Rep.int⟩
   |_=>exact h.elim
theorem ZlZ:cg X (.type "tuple") (rB X.K uq):=cg.imp Zhx λxs H Q ak=>by
 obtain⟨ι,M,ds,S,rd,h⟩:=ak;cases ds with
 |nil=>exact h.elim|cons d ds=>
  cases ds with
  |cons _ _=>cases d<;>exact h.elim|nil=>
   obtain⟨x,rfl,r⟩:=wA rd;cases d with
   |tup z=>obtain⟨p,vs,rfl,s,r'⟩:=r.jr;exact⟨p,vs,rfl,.inr ⟨s,Zw.ok h S (Rep.tup s r')⟩⟩|aH z=>obtain⟨p,vs,rfl,s,r'⟩:=r.sZ;refine⟨p,vs,rfl,.inl ⟨s.sq,λq hq=>?_⟩⟩;obtain⟨x2,S2,r2⟩:=S.wV hq r';exact h _ _ _ x2 S2 r2|ref n=>
    cases hn:M[n]? with
    |none=>rw[Ac,hn]at h;exact h.elim|some o=>
     cases o with
     |dct _=>rw[Ac,hn]at h;exact h.elim|cR _=>rw[Ac,hn]at h;exact h.elim|ins _ _=>rw[Ac,hn]at h;exact h.elim|lst z=>simp only[ZhM,ZhF,Ac,hn]at h;obtain⟨p,hp,rfl⟩:=r.d_;obtain⟨vs,e,r'⟩:=S.obj n _ p hn hp;refine⟨p,vs,rfl,.inl ⟨bQ.of e,λq hq=>?_⟩⟩;obtain⟨x2,S2,r2⟩:=S.wV hq r';exact h _ _ _ x2 S2 r2
   |_=>exact h.elim
theorem Zst:cg X (.type "list") (rB X.K Ad):=cg.imp Zi5 λxs H Q ak=>by
 obtain⟨ι,M,ds,S,rd,h⟩:=ak;cases ds with
 |nil=>exact h.elim|cons d ds=>
  cases ds with
  |cons _ _=>cases d<;>exact h.elim|nil=>
   obtain⟨x,rfl,r⟩:=wA rd;cases d with
   |tup z=>obtain⟨p,vs,rfl,s,r'⟩:=r.jr;refine⟨p,vs,rfl,.inr s,λq hq=>?_⟩;obtain⟨x2,S2,r2⟩:=S.lst hq r';exact h _ _ _ x2 S2 r2|aH z=>obtain⟨p,vs,rfl,s,r'⟩:=r.sZ;refine⟨p,vs,rfl,.inl s.sq,λq hq=>?_⟩;obtain⟨x2,S2,r2⟩:=S.lst hq r';exact h _ _ _ x2 S2 r2|ref n=>
    cases hn:M[n]? with
    |none=>rw[Ae,hn]at h;exact h.elim|some o=>
     cases o with
     |dct _=>rw[Ae,hn]at h;exact h.elim|cR _=>rw[Ae,hn]at h;exact h.elim|ins _ _=>rw[Ae,hn]at h;exact h.elim|lst z=>simp only[Znv,Znt,Ae,hn]at h;obtain⟨p,hp,rfl⟩:=r.d_;obtain⟨vs,e,r'⟩:=S.obj n _ p hn hp;refine⟨p,vs,rfl,.inl (bQ.of e),λq hq=>?_⟩;obtain⟨x2,S2,r2⟩:=S.lst hq r';exact h _ _ _ x2 S2 r2
   |_=>exact h.elim
end
theorem jl:gb "len" =Ya (.builtin "len"):=by decide +kernel
theorem Zta:gb "all" =Ya (.builtin "all"):=by decide +kernel
theorem Ze3:gb "isinstance" =Ya (.builtin "isinstance"):=by decide +kernel
theorem Zol:gb "int" =Ya (.type "int"):=by decide +kernel
theorem uG:gb "str" =Ya (.type "str"):=by decide +kernel
theorem ZpJ:gb "list" =Ya (.type "list"):=by decide +kernel
theorem ZjD:gb "tuple" =Ya (.type "tuple"):=by decide +kernel
section
variable {X:Cx} {a:Expr} {pos p p2:aY} {f:E3}
noncomputable def uH:rK->String
 | .int=>"int" | .bool=>"bool" | .str=>"str" | .list=>"list" | .tuple=>"tuple"
theorem yq(K:Yb)(t:String)(T:rK)(ht:t∈["NoneType","bool","int","str","list","tuple","dict"]):
  MJ K (.type t) (.type (uH T))=Ya (t==uH T|| (t== "bool" &&uH T== "int")):=by
 simp only[Y1,vz,or_false]at ht;rcases ht with rfl|rfl|rfl|rfl|rfl|rfl|rfl <;>cases T<;>kernel_rfl
theorem ZuZ(T:rK):gb (uH T)=Ya (.type (uH T)):=by cases T<;>decide +kernel
noncomputable def ZtI(T:rK)(o:Option MO):Option Bool:=match o with
 |some (.lst _)=>Ya (T== .list)|some (.dct _)=>Ya false|some (.cR _)=>Ye|some (.ins _ _)=>Ye
 |none=>Ye
theorem Zpy{Q:Yd->Yf->Prop}{T:rK}{x:V}{b:Bool}(I:Inv X pins σ H s)(S:aA X.K H ι M)(r:Rep X.K H ι d x)(ru:RelV x u)(e:rQ T d M=Ya b)(h:∀tk,Q (.bool b) {s with toks:=tk}):Y8 (ao X.prog X.w) A (call (.builtin "isinstance") [u,.type (uH T)]) Q E s:=by
 cases d with
 |non=>rw[r.jJ]at ru;exact zU I ru .non ((yq X.K "NoneType" T (by decide)).trans (vJ (by cases T<;>rfl) e)) h|bl c=>rw[r.g_]at ru;exact zU I ru (.bl c) ((yq X.K "bool" T (by decide)).trans (vJ (by cases T<;>rfl) e)) h|int i=>rw[r.int_inv]at ru;exact zU I ru (.int i) ((yq X.K "int" T (by decide)).trans (vJ (by cases T<;>rfl) e)) h|str z=>rw[r.str_inv]at ru;exact zU I ru (.str _) ((yq X.K "str" T (by decide)).trans (vJ (by cases T<;>rfl) e)) h
 |tup ds=>obtain⟨p,vs,its,_,eu,⟨o,h1,h2,_⟩,_⟩:=Be I r ru;rw[eu];exact nD UG I.bO ⟨o,h1,h2⟩ ((yq X.K "tuple" T (by decide)).trans (vJ (by cases T<;>rfl) e)) (λz=>nomatch z) h|aH ds=>exact iu e|ref n=>
  have e:ZtI T M[n]?=Ya b:=e;obtain⟨a,ha,ex⟩:=r.d_;rw[ex]at ru;cases hn:M[n]? with
  |none=>rw[hn]at e;exact iu e|some o=>
   rw[hn]at e;cases o with
   |lst z=>obtain⟨vs,ev,_⟩:=S.obj n _ a hn ha;exact zU I ru (.lst ev) ((yq X.K "list" T (by decide)).trans (vJ (by cases T<;>rfl) e)) h|dct z=>obtain⟨vs,ev,_⟩:=S.obj n _ a hn ha;exact zU I ru (.dK ev) ((yq X.K "dict" T (by decide)).trans (vJ (by cases T<;>rfl) e)) h|cR z=>exact iu e|ins _ _=>exact iu e
theorem Zn8(T:rK){x:aj}(hm:X.mg "isinstance" =Ye)(hm2:X.mg x=Ye)(h:C3 X a f)(hx:x=(jV (uH T)):=by rfl)(hg:Gl X "isinstance":=by rfl)(hg2:Gl X x:=by rfl)(hn:x≠ "__name__":=by decide)(hd:(x==("__debug__":aj))=false:=by decide)(hs:Yp (a::[.Name x p2]) X.env=(false,aF a X.env)::Yp [.Name x p2] X.env:=by rfl)(hs2:Yp (.Name x p2::[]) X.env=(false,aF (.Name x p2) X.env)::Yp [] X.env:=by rfl)(hpl:(bN pos (Yp [.Name x p2] X.env)).any (·.1)=false:=by rfl):C3 X (.Call (.Name "isinstance" p) [a,.Name x p2] [] pos) (e1 (xW T) f):=by
 subst hx;have hc:cg X (.builtin "isinstance") (λxs H Q=>∃ι M d x,xs=[x,.ty (uH T)]/\aA X.K H ι M/\Rep X.K H ι d x/\Zw X.K H ι Q (xW T d M)):=by
  intro pins s σ H xs us Q I r q;obtain⟨ι,M,d,x,rfl,S,rd,q⟩:=q;obtain⟨u,w',rfl,ru,jg⟩:=vals2 r;cases jg;unfold xW at q;cases e:rQ T d M with
  |none=>rw[e]at q;exact q.elim|some b=>rw[e]at q;exact Zpy I S rd ru e λtk=>⟨.bl b,H,I.tok _,rfl,Zw.ok q S Rep.bl⟩
 refine(Qf hc hg hm Ze3 (uh h (uh (X_ hg2 hm2 (ZuZ T) (v:=.ty (uH T)) rfl hn hd) El hs2) hs) (by decide) (by decide) hs hpl).imp λσ H Q ak=>?_;obtain⟨ι,M,env,S,E,h⟩:=ak;obtain⟨d,M1,e1,h⟩:=Zw.bind h;refine⟨ι,M,env,S,E,?_⟩;rw[e1];intro v H1 ι1 x1 S1 r1;exact⟨ι1,M1,d,v,rfl,S1,r1,h.up x1⟩
theorem Ze7{p:D->Bool}:∀{l:List D} {e:Nat->Bool},(∀(j:Nat) d,l[j]?=Ya d->e j=p d)->(kW l.length).all e=l.all p
 |[],_,_=>rfl|d::l,e,h=>by rw[Yo,Vq,o7,HF,h 0 d rfl,o7];congr 1;exact Ze7 λj d' hj=>h (j+1) d' (by simpa using hj)
theorem ZuL(hc:X.calm=true):cg X (.builtin "all") (rB X.K Af):=by
 intro pins s σ H xs us Q I rs h;obtain⟨ι,M,ds,S,rd,h⟩:=h;cases ds with
 |nil=>exact h.elim|cons d ds=>
  cases ds with
  |cons _ _=>cases d<;>exact h.elim|nil=>
   obtain⟨x,rfl,r⟩:=wA rd;obtain⟨u,rfl,ru⟩:=vals1 rs;cases d with
   | ref n=>
    cases hn:M[n]? with
    |none=>rw[Ag,hn]at h;exact h.elim|some o=>
     cases o with
     |dct _=>rw[Ag,hn]at h;exact h.elim|cR _=>rw[Ag,hn]at h;exact h.elim|ins _ _=>rw[Ag,hn]at h;exact h.elim|lst z=>
      simp only[Ag,hn]at h;cases q:allB z with
      |none=>rw[q]at h;exact h.elim|some b=>
       rw[q]at h;obtain⟨a,ha,rfl⟩:=r.d_;cases ru;obtain⟨vs,ev,rv⟩:=S.obj n _ a hn ha;obtain⟨its,rr,pl,_⟩:=I.list (bQ.of ev);have hz:z.all vY=true/\z.all qC=b:=by
        unfold allB at q;split at q
        .rename_i hz;exact⟨hz,eE q⟩
        .cases q
       have hlen:its.toArray.size=z.length:=by rw[Yl,←rr.length,rv.length]
       have Rk:X.A.in1.handled=Ye:=I.ok.hd hc;refine call_all_walk (w5 pl.isList ⟨s.heap.objs.size,_,_,_,_,_,(λj=>match z[j]? with|some d=>qC d|none=>true),rfl,Walks.list Rk s.heap.objs.size a (eQ (I.hok.lt ev)) its.toArray,⟨⟨_,Yw _ rfl,rfl,rfl⟩,pl.isList.at λo e=>Yh _ e⟩,?_,?_⟩)
       .intro j v s' Q' E' hv hq;have hv':its[j]?=Ya v:=by simpa using hv
        have hj:j<z.length:=by have:=(Yn.mp hv').1;rw[←Yl,hlen]at this;exact this
        have e1:z[j]?=Ya z[j]:=by simp[hj]
        have hb:=fB.mp hz.1 _ (o5 hj);obtain⟨w,g1,g2⟩:=rv.get e1;obtain⟨u',k1,k2⟩:=rr.get g1;rw[hv']at k1;cases k1;have hq':Q' (qC z[j]) s':=by have:=hq;simp only[e1]at this;exact this
        generalize z[j]=dj at hb g2 hq';cases dj with
        |bl c=>have:=g2.g_;subst this;cases k2;exact CN hq'|_=>simp[vY]at hb
       .intro h' tk kk;rw[hlen,Ze7 (p:=qC) (λj d hd=>by rw[hd]),hz.2];exact⟨.bl b,H,I.kept (λc o e=>kk c o (by simp;exact eQ (Yx e)) (Yh _ e)),rfl,Zw.ok h S Rep.bl⟩
   |_=>exact h.elim
end
noncomputable def ZqR(outer:List (aj×NameKind))(N:List aj)(scope:Scope)(N':List aj)(own:Nat):Bool:=
 (scope.names.all λy=>decide (y.2≠ .cell)&&(decide (y.2≠ .free)|| decide (outer.lookup y.1=Ya .cell)|| decide (outer.lookup y.1=Ya .free))&&(decide (y.2≠ .local)|| decide (scope.names.lookup y.1=Ya .local)))&&
  decide (N'.length=N.length+own)&&Rb N N' scope
theorem Rm{scope:Scope}{N':List aj}{own:Nat}(hk:scope.kind= .function)(h:ZqR X.env.scope.names X.N scope N' own=true):J6 X scope N' own:=by
 simp only[ZqR,gQ,decide_eq_true_eq,fB,vD]at h;obtain⟨⟨h1,h2⟩,h3⟩:=h;refine⟨hk,λy hy=>(h1 y hy).1.1,λy hy e=>?_,λy hy e=>?_,h2,h3⟩
 .rcases(h1 y hy).1.2 with(q|q)|q
  .exact absurd e q
  .exact .inl q
  .exact .inr q
 .rcases(h1 y hy).2 with q|q
  .exact absurd e q
  .exact q
theorem nj{h:aq}{mg:aj->Option Yd}(KX:K.In h)(G:h.Ns Y4 mg){x:aj}{f:Yq}{oc:Yd}{od an:Option Yq}{osl:Array (Option Yd)}{dV kV doc pm cdv ct:Yd}(a:PySem.W.nsIn K Y4 x=Ya (Ya (.ref f)))(l:K.lookup f=Ya ⟨oc,od,.func (qY x x (qx st) (jx st) (Zv st) dV kV doc pm an cdv ct),osl⟩)(c:CJ K cdv x=true)(k:wY K (.ref f)=true)(b:Binds K (qY x x (qx st) (jx st) (Zv st) dV kV doc pm an cdv ct) ps []):dD K mg x st ps:=⟨f,_,Z5 l c k,U3 KX G a,b⟩
theorem Zum{l:PySem.W.OpenLaw}{k:Nat}{q:Y3}{loose:List aj}{XP:(aj->Option Yd)->aq->Prop}{YP:aO->aq->Prop}{d:DefRec}{K:Params->Yb}{F:F3}(hn:l.most=Ya 63)(hdf:d.params.defaults=[])(hr:cL k vm)(hY:∀(w:aO) (h:aq),YP w h->(K w.params).In h)(G:∀(w:aO) (mg:aj->Option Yd) (fa:Yq) (h:aq),(K w.params).In h->h.Ns Y4 mg->mg d.name=Ya (.ref fa) ->
   ∃fd:gM,(∀(s:Yf) (u:Yd),zp s fd ⟨[u],[]⟩ [("script",u)])/\∀base:aq,(K w.params).In base->base.Ns Y4 mg->fC l.prog w (K w.params) mg base pD k fa fd ["script"] (yg (K w.params) 1 F))(hF:∀ns:List Int,ns.length<=63->∃M',F [.aH (ns.map D.int)] []= .ok (.bl true) M'):
  U0 q loose XP YP l.row.toRowW d [] (λf vs=>Nk f vs):=
 L2.Zl1 (n:=63) (k:=k) (x:="script") (CX:=λ_=>pD) (sp:=λw=>yg (K w.params) 1 F) hn (by decide) hdf hr hY G (λw H a ns hl hO hS=>by
  obtain⟨M',e⟩:=hF ns hl;refine⟨[],[],[.aH (ns.map D.int)],⟨rfl,List.nodup_nil,λn o a h=>by simp at h⟩,Zt.cons ?_ Zt.nil,rfl,?_⟩
  .refine⟨a,ns.map V.int,rfl,?_,Zt.ints ns⟩;rcases hS with(h|⟨o,h⟩)|h
   .rcases hO a with z|⟨ob,xs,z⟩
    .rw[h]at z;cases z
    .rw[h]at z;cases z
   .exact .inl ⟨o,h⟩
   .exact .inr h
  .rw[e]
   exactλv H' ι' _ _ r=>r.g_) λ_ _ _ _ _ z=>z
theorem Rn{a b:dJ}(h:dk a=dk b):a=b:=by
 cases a with
 |inl i=>cases b with
  |inl j=>simp only[dk,Sum.inl.injEq]at h;rw[h]|inr y=>simp[dk]at h
 | inr x=>cases b with
  |inl j=>simp[dk]at h|inr y=>simp only[dk,Sum.inr.injEq,Str.mk.injEq]at h;have:=congrArg zM h;simp at this;rw[this]
theorem Zlo{b:D}{y:V}{k:dJ}(h:n_ b=Ya k)(r:Rep K H ι b y):y=kV (dk k):=by
 cases b with
 |int i=>cases h;exact r.int_inv|str x=>cases h;exact r.str_inv|_=>exact iu h
variable{kvs:List (dJ×D)}{ws:List (Key×V)}
section
variable {K:Yb} {H H':Hp} {ι ι':List Yq} {M:Store} {p:Yq}
theorem bT.nil:bT K H ι [] []:=⟨rfl,Zt.nil⟩
theorem bT.cons{k:dJ}{d:D}{v:V}{kvs:List (dJ×D)}{ws:List (Key×V)}(h:Rep K H ι d v)(r:bT K H ι kvs ws):bT K H ι ((k,d)::kvs) ((dk k,v)::ws):=⟨by simp[r.1],Zt.cons h r.2⟩
theorem bT.cons_inv{q:dJ×D}(r:bT K H ι (q::kvs) ws):∃v ws',ws=(dk q.1,v)::ws'/\Rep K H ι q.2 v/\bT K H ι kvs ws':=by
 obtain⟨h1,h2⟩:=r;cases ws with
 |nil=>simp at h1|cons w ws=>simp only[Yy,Ww]at h1;obtain⟨v,us,e,r1,r2⟩:=Zt.cons_inv h2;simp only[Yy,Ww]at e;exact⟨w.2,ws,by rw[←h1.1],e.1▸r1,h1.2,e.2▸r2⟩
theorem bT.nil_inv(r:bT K H ι [] ws):ws=[]:=by simpa using r.1
theorem bT.mono(r:bT K H ι kvs ws)(e:Ext K H ι H' ι'):bT K H' ι' kvs ws:=⟨r.1,r.2.mono e⟩
theorem bT.length(r:bT K H ι kvs ws):ws.length=kvs.length:=by have:=congrArg tV r.1;simpa using this
theorem bT.val(k:dJ):∀{ws:List (Key×V)},bT K H ι kvs ws->match rN kvs k with|some d=>∃v,lJ ws (dk k)=Ya v/\Rep K H ι d v|none=>lJ ws (dk k)=Ye:=by
 induction kvs with
 |nil=>intro ws r;rw[r.nil_inv];exact ZnY|cons q kvs ih=>
  intro ws r;obtain⟨v,ws',rfl,r1,r2⟩:=r.cons_inv;obtain⟨k',d⟩:=q;unfold rN;by_cases e:k'=k
  .rw[if_pos e];exact⟨v,JB (by rw[e]),r1⟩
  .rw[if_neg e,JC λz=>e (Rn z)];exact ih r2
theorem bT.append{k1 k2:List (dJ×D)}{w1 w2:List (Key×V)}(a:bT K H ι k1 w1)(b:bT K H ι k2 w2):bT K H ι (k1++k2) (w1++w2):=⟨by simp[a.1,b.1],by rw[nP,nP];exact a.2.append b.2⟩
theorem bT.any(k:dJ):∀{ws:List (Key×V)},bT K H ι kvs ws->(ws.any λkv=>decide (kv.1=dk k))=(kvs.any λq=>decide (q.1=k)):=by
 induction kvs with
 |nil=>intro ws r;rw[r.nil_inv];rfl|cons q kvs ih=>
  intro ws r;obtain⟨v,ws',rfl,r1,r2⟩:=r.cons_inv;rw[qm,qm,ih r2];congr 1;by_cases e:q.1=k
  .simp[e]
  .simp[e];exactλz=>e (Rn z)
theorem bT.put{k:dJ}(r:bT K H ι kvs ws)(rd:Rep K H ι d v):bT K H ι (putD k d kvs) (putK ws (dk k) v):=by
 unfold putD putK;rw[r.any k];by_cases c:(kvs.any λq=>decide (q.1=k))=true
 .rw[if_pos c,if_pos c];clear c
  induction kvs generalizing ws with
  |nil=>rw[r.nil_inv];exact bT.nil|cons q kvs ih=>
   obtain⟨u,ws',rfl,r1,r2⟩:=r.cons_inv;rw[Yy,Yy];by_cases e:q.1=k
   .rw[if_pos e,if_pos (by rw[e])];exact bT.cons rd (ih r2)
   .rw[if_neg e,if_neg λz=>e (Rn z)];exact bT.cons r1 (ih r2)
 .rw[if_neg c,if_neg c];exact r.append (bT.cons rd bT.nil)
theorem bT.merge{l:List (dJ×D)}:∀{kvs:List (dJ×D)} {ws us:List (Key×V)},bT K H ι l us->bT K H ι kvs ws->bT K H ι (l.foldl (λacc p=>putD p.1 p.2 acc) kvs) (zZ ws us):=by
 induction l with
 |nil=>intro kvs ws us r r0;rw[r.nil_inv];exact r0|cons q l ih=>intro kvs ws us r r0;obtain⟨v,us',rfl,r1,r2⟩:=r.cons_inv;exact ih (ws:=putK ws (dk q.1) v) (us:=us') r2 (r0.put r1)
theorem aA.dct(S:aA K H ι M)(hp:H p=Ye)(r:bT K H ι kvs ws):Ext K H ι (upd H p (.dK ws)) (ι++[p])/\aA K (upd H p (.dK ws)) (ι++[p]) (M++[.dct kvs])/\Rep K (upd H p (.dK ws)) (ι++[p]) (.ref M.length) (.ref p):=by have e:Ext K H ι (upd H p (.dK ws)) (ι++[p]):=Loose.yX (.inl hp);exact⟨e,S.new hp ⟨ws,dz,r.mono e⟩,Rep.ref (by rw[←S.len];simp)⟩
theorem aA.AdC(S:aA K H ι M)(l0:Loose H p)(hn:ι[n]?=Ya p)(r:bT K H ι kvs ws):Ext K H ι (upd H p (.dK ws)) ι/\aA K (upd H p (.dK ws)) ι (M.set n (.dct kvs)):=by have e:Ext K H ι (upd H p (.dK ws)) ι:=Loose.ext l0;exact⟨e,S.put l0 hn ⟨ws,dz,r.mono e⟩⟩
end
section
variable {X:Cx} {a b c e o:Expr} {es:List Expr} {pos p pos' apos cpos:aY} {f g h:E3} {gl:cN}
def yr(K:Yb)(H:Hp)(ι:List Yq)(Q:List (V×V)->Hp->Prop)(r:R3 (List (dJ×D))):Prop:=match r with
 | .ok l M'=>∀ws H' ι',Ext K H ι H' ι'->aA K H' ι' M'->bT K H' ι' l ws->Q (ws.map λkv=>(kV kv.1,kv.2)) H'|_=>False
theorem yr.bind{Q:List (V×V)->Hp->Prop}{r:R3 α}{k:α->Store->R3 (List (dJ×D))}(h:yr K H ι Q (r.bind k)):∃a M,r= .ok a M/\yr K H ι Q (k a M):=by
 cases r with
 |ok a M=>exact⟨a,M,rfl,h⟩|exc x M=>exact h.elim|bad=>exact h.elim
def CD(X:Cx)(pos:aY)(ks:List (Option Expr))(vs:List Expr)(r:vZ):Prop:=∃mR,Es X pos ks vs mR/\∀σ H Q,(∃ι M env,aA X.K H ι M/\bF X.K H ι env σ/\yr X.K H ι Q (r env M))->JF mR σ H Q
theorem Zod:CD X pos [] [] v4:=⟨[],Zqt,λσ H Q ⟨ι,M,env,S,E,h⟩=>h [] H ι Ext.refl S bT.nil⟩
theorem mq{k v:Expr}{ks:List (Option Expr)}{vs:List Expr}{r:vZ}(hk:C3 X k f)(hv:C3 X v g)(hr:CD X pos ks vs r):CD X pos (Ya k::ks) (v::vs) (bK f g r):=by
 obtain⟨mR,hp,ht⟩:=hr;refine⟨_,Zn7 hk hv hp,λσ H Q ⟨ι,M,env,S,E,h⟩=>?_⟩;obtain⟨a,M1,e1,h⟩:=yr.bind h;obtain⟨b,M2,e2,h⟩:=yr.bind h;refine⟨ι,M,env,S,E,?_⟩;rw[e1];intro x H1 ι1 x1 S1 r1;refine⟨ι1,M1,env,S1,E.mono x1,?_⟩;rw[e2];intro y H2 ι2 x2 S2 r2;cases hkd:n_ a with
 |none=>simp only[hkd]at h;exact h.elim|some kk=>simp only[hkd]at h;obtain⟨l,M3,e3,h⟩:=yr.bind h;refine ht σ H2 _ ⟨ι2,M2,env,S2,(E.mono x1).mono x2,?_⟩;rw[e3];intro ws H3 ι3 x3 S3 r3;have:=h ((dk kk,y)::ws) H3 ι3 ((x1.trans x2).trans x3) S3 (bT.cons (r2.mono x3) r3);rw[Yy,←Zlo hkd r1]at this;exact this
theorem ZqQ{ks:List (Option Expr)}{vs:List Expr}{r:vZ}(hr:CD X pos ks vs r)(hall:ks.all (·.isSome)=true:=by rfl)(hl:ks.length=vs.length:=by rfl)(h0:ks≠[]:=by exact List.cons_ne_nil _ _)(h15:ks.length<=15:=by decide):C3 X (.Dict ks vs pos) (v5 r):=by
 obtain⟨mR,hp,ht⟩:=hr;refine(Zpx hp hall hl h0 h15).imp λσ H Q ⟨ι,M,env,S,E,h⟩ p hp=>?_;obtain⟨x1,S1,r1⟩:=S.dct hp bT.nil;obtain⟨l,M1,e1,h⟩:=Zw.bind h;refine ht σ _ _ ⟨_,_,env,S1,E.mono x1,?_⟩;rw[e1];intro ws H2 ι2 x2 S2 r2;have Ro:ι2[M.length]?=Ya p:=x2.pre _ _ (by rw[←S.len];simp);split at h
 .rename_i hm;obtain⟨ws0,hw0,k0⟩:=S2.obj _ _ _ hm Ro;rw[k0.nil_inv]at hw0;split at h
  .rename_i AdD;refine⟨hw0,ws,rfl,by rw[r2.length];exact AdD,?_⟩;obtain⟨x3,S3⟩:=S2.AdC (.inr (.inr (.inl ⟨_,hw0⟩))) Ro (bT.merge (kvs:=[]) (ws:=[]) r2 bT.nil);exact h _ _ _ ((x1.trans x2).trans x3) S3 (Rep.ref Ro)
  .exact h.elim
 .exact h.elim
theorem hu1(hu:X.A.units+80<iH):X.A.units+1<iH:=lB 1 7331617893452817 T1 hu
theorem ZsU(S:aA K H ι M){a:Yq}(h:uo M[n]?=Ya kvs)(ha:ι[n]?=Ya a):∃ws,Rd H a (.dK ws)/\bT K H ι kvs ws:=by
 cases hn:M[n]? with
 |none=>simp[hn]at h|some ob=>
  cases ob with
  |lst _=>simp[hn]at h|dct k=>
   have e:k=kvs:=by simpa[hn]using h
   subst e;obtain⟨ws,hw,kr⟩:=S.obj n _ a hn ha;exact⟨ws,.inl hw,kr⟩
  |cR k=>
   have e:k=kvs:=by simpa[hn]using h
   subst e;obtain⟨ws,⟨o,hw⟩,kr⟩:=S.obj n _ a hn ha;exact⟨ws,.inr ⟨o,hw⟩,kr⟩
  |ins _ _=>simp[hn]at h
theorem Znm(hu:X.A.units+80<iH)(ha:C3 X a f)(hb:C3 X b g)(hs:zY b:=by exactλ_ _=>rfl):C3 X (.Subscript a b pos) (e2 pI f g):=(Zpp (hu1 hu) ha hb hs).imp λσ H Q ak=>by
 obtain⟨ι,M,env,S,E,h⟩:=ak;obtain⟨d,M1,e1,h⟩:=Zw.bind h;obtain⟨k,M2,e2,h⟩:=Zw.bind h;refine⟨ι,M,env,S,E,?_⟩;rw[e1];intro x H1 ι1 x1 S1 r1;refine⟨ι1,M1,env,S1,E.mono x1,?_⟩;rw[e2];intro y H2 ι2 x2 S2 r2;cases d with
 | ref n=>
  simp only[Qu]at h;cases hn:uo M2[n]? with
  |none=>simp only[hn]at h;exact h.elim|some kvs=>
   cases hk:n_ k with
   |none=>simp only[hn,hk]at h;exact h.elim|some kk=>
    simp only[hn,hk]at h;cases hv:rN kvs kk with
    |none=>simp only[hv]at h;exact h.elim|some w=>simp only[hv]at h;obtain⟨ad,ha,rfl⟩:=(r1.mono x2).d_;obtain⟨ws,hw,kr⟩:=ZsU S2 hn ha;have hv':=kr.val kk;rw[hv]at hv';obtain⟨v,ev,rv⟩:=hv';refine⟨ad,v,rfl,?_,h v H2 ι2 (x1.trans x2) S2 rv⟩;rw[Zlo hk r2,←ev];exact .inl ⟨ws,dk kk,hw,rfl,rfl⟩
 |_=>exact h.elim
theorem ZpF{op:D->D->D->Store->R3 D}(h':Zw K H ι Q (e3 op f g h env M)):
  ∃a M1 b M2 c M3,f env M= .ok a M1/\g env M1= .ok b M2/\h env M2= .ok c M3/\Zw K H ι Q (op a b c M3):=by
 obtain⟨a,M1,e1,h'⟩:=Zw.bind h';obtain⟨b,M2,e2,h'⟩:=Zw.bind h';obtain⟨c,M3,e3,h'⟩:=Zw.bind h';exact⟨a,M1,b,M2,c,M3,e1,e2,e3,h'⟩
theorem Zny{D':Ends}(E:bF K H ι env σ)(h':m_ K H ι D' (fG f env M)):Zw K H ι (λ_ H'=>D'.nx σ H') (f env M):=by
 unfold fG at h';cases q:f env M with
 |ok d M1=>rw[q]at h';exactλv H1 ι1 x1 S1 r1=>h' σ H1 ι1 x1 S1 (E.mono x1)|exc x M1=>rw[q]at h';exact h'.elim|bad=>rw[q]at h';exact h'.elim
theorem ZlK{i:Expr}{spos:aY}(ho:C3 X o f)(hi:C3 X i g)(hv:C3 X e h)(ha:∀v,tL (.Subscript o i spos) X.env v=(do
   let ov ←tK [v] (aF o X.env)
   let iv ←tK [v,ov] (aF i X.env)
   zm spos
   tK [v,ov,iv] (setItem ov iv v)
   release [v,ov,iv] []):=by intro _;rfl)(hs:swapsWithSole [.Subscript o i spos] e pos.line X.env=pure false:=by rfl)(hw:swappedStores [.Subscript o i spos] e X.env=pure Ye:=by rfl)(h1:(qe [.Subscript o i spos] X.env).map (·.2)=[tL (.Subscript o i spos) X.env]:=by rfl):CS X (.Assign [.Subscript o i spos] e pos) (Ai f g h):=(Zr5 hv (Zra ho hi set_list ha) hs hw h1).imp λD' σ H ak=>by
 obtain⟨ι,M,env,S,E,hh⟩:=ak;obtain⟨d,M1,b,M2,k,M3,e1,e2,e3,hh⟩:=ZpF (Zny E hh);refine⟨ι,M,env,S,E,?_⟩;rw[e1];intro v H1 ι1 x1 S1 r1;refine⟨ι1,M1,env,S1,E.mono x1,?_⟩;rw[e2];intro x H2 ι2 x2 S2 r2;refine⟨ι2,M2,env,S2,(E.mono x1).mono x2,?_⟩;rw[e3];intro y H3 ι3 x3 S3 r3;cases b with
 | ref n=>
  cases k with
  | int j=>
   simp only[Qx]at hh;cases hn:M3[n]? with
   |none=>simp only[hn]at hh;exact hh.elim|some ob=>
    cases ob with
    |dct _=>simp only[hn]at hh;exact hh.elim|cR _=>simp only[hn]at hh;exact hh.elim|ins _ _=>simp only[hn]at hh;exact hh.elim|lst xs=>
     simp only[hn]at hh;cases hj:jE xs.length j with
     |none=>simp only[hj]at hh;exact hh.elim|some q=>simp only[hj]at hh;obtain⟨ad,ha,rfl⟩:=(r2.mono x3).d_;obtain⟨ws,hw,kr⟩:=S3.obj n _ ad hn ha;obtain⟨x4,S4⟩:=S3.Cv (.inr (.inl ⟨_,hw⟩)) ha (kr.set q ((r1.mono x2).mono x3));exact⟨ad,ws,j,q,rfl,r3.int_inv,hw,by rw[kr.length];exact hj,hh .non _ _ (((x1.trans x2).trans x3).trans x4) S4 Rep.non⟩
  |_=>exact hh.elim
 |_=>exact hh.elim
end
section
variable {X:Cx} {a b c e o:Expr} {es:List Expr} {pos p apos cpos:aY} {f g h:E3} {gl:cN}
theorem Zuo:cg X (.type "int") (rB X.K Ew):=cg.imp ZmI λxs H Q ak=>by
 obtain⟨ι,M,ds,S,rd,h⟩:=ak;cases ds with
 |nil=>exact h.elim|cons d ds=>
  cases ds with
  |cons _ _=>cases d<;>exact h.elim|nil=>
   obtain⟨x,rfl,r⟩:=wA rd;cases d with
   |int i=>exact .inl ⟨i,by rw[r.int_inv],Zw.ok h S Rep.int⟩|bl k=>exact .inr ⟨k,by rw[r.g_],Zw.ok h S Rep.int⟩|_=>exact h.elim
end
section
variable {X:Cx} {o e:Expr} {es:List Expr} {apos cpos:aY} {f:E3} {gl:cN}
theorem Zt.erase:∀{ds:List D} {vs:List V} (i:Nat),Zt K H ι ds vs->Zt K H ι (ds.eraseIdx i) (vs.eraseIdx i)
 |[],_,_,h=>by rw[h.nil_inv];exact Zt.nil|d::ds,_,0,h=>by obtain⟨v,us,rfl,r,t⟩:=h.cons_inv;exact t|d::ds,_,i+1,h=>by obtain⟨v,us,rfl,r,t⟩:=h.cons_inv;exact Zt.cons r (t.erase i)
theorem Zt.dropLast(r:Zt K H ι ds vs):Zt K H ι ds.dropLast vs.dropLast:=by rw[Vt,Vt,r.length];exact r.take _
theorem Zt4:mQ X "list.pop" (rM X.K xX):=mQ.imp (r:=λx xs H Q=>Z1 x xs H Q\/Z0 x xs H Q) (λpins s σ H x xs v us Q I rx rs q=>q.elim (ZnH pins s σ H x xs v us Q I rx rs) (ZrY pins s σ H x xs v us Q I rx rs)) λx xs H Q ak=>by
 obtain⟨ι,M,a,ds,S,ra,rd,h⟩:=ak;cases a with
 | ref n=>
  cases ds with
  | nil=>
   simp only[Qv,ZlG]at h;cases hn:M[n]? with
   |none=>simp only[hn]at h;exact h.elim|some ob=>
    cases ob with
    |dct _=>simp only[hn]at h;exact h.elim|cR _=>simp only[hn]at h;exact h.elim|ins _ _=>simp only[hn]at h;exact h.elim|lst z=>
     simp only[hn]at h;cases hx:z[z.length-1]? with
     |none=>simp only[hx]at h;exact h.elim|some d=>simp only[hx]at h;obtain⟨p,hp,rfl⟩:=ra.d_;have:=rd.nil_inv;subst this;obtain⟨vs,e,rv⟩:=S.obj n _ p hn hp;obtain⟨y,hy,ry⟩:=rv.get hx;obtain⟨x2,S2⟩:=S.Cv (.inr (.inl ⟨_,e⟩)) hp rv.dropLast;exact .inr ⟨p,vs,y,rfl,rfl,e,by rw[rv.length];exact hy,h _ _ _ x2 S2 (ry.mono x2)⟩
  | cons d ds=>
   cases ds with
   |cons _ _=>cases d<;>exact h.elim|nil=>
    cases d with
    | int i=>
     simp only[Qv,ZlG]at h;cases hn:M[n]? with
     |none=>simp only[hn]at h;exact h.elim|some ob=>
      cases ob with
      |dct _=>simp only[hn]at h;exact h.elim|cR _=>simp only[hn]at h;exact h.elim|ins _ _=>simp only[hn]at h;exact h.elim|lst z=>
       simp only[hn]at h;by_cases hb:-1000000<=i/\i<=1000000
       .rw[if_pos hb]at h;cases hk:jE z.length i with
        |none=>simp only[hk]at h;exact h.elim|some k=>
         simp only[hk]at h;cases hx:z[k]? with
         |none=>simp only[hx]at h;exact h.elim|some d=>simp only[hx]at h;obtain⟨p,hp,rfl⟩:=ra.d_;obtain⟨v,ws,rfl,r1,r2⟩:=rd.cons_inv;have:=r2.nil_inv;subst this;have:=r1.int_inv;subst this;obtain⟨vs,e,rv⟩:=S.obj n _ p hn hp;obtain⟨y,hy,ry⟩:=rv.get hx;obtain⟨x2,S2⟩:=S.Cv (.inr (.inl ⟨_,e⟩)) hp (rv.erase k);obtain⟨q1,q2,q3,q4⟩:=Qh (n:=z.length) (i:=i) (j:=k) hk;exact .inl ⟨p,vs,i,k,y,rfl,rfl,e,by omega,by omega,by rw[rv.length];exact q1,hy,h _ _ _ x2 S2 (ry.mono x2)⟩
       .rw[if_neg hb]at h;exact h.elim
    |_=>exact h.elim
 |_=>cases ds<;>exact h.elim
theorem Zmu(ho:C3 X o f)(ha:CA X (e::es) gl)(hbase:oW o "pop" X.env (aF o X.env)=aF o X.env:=by rfl)(hfew:((bN cpos (Yp (e::es) X.env)).all (λx=>!x.1)&&(jO cpos (jN [] X.env)).all (λx=>x.1.isSome)
   &&decide ((e::es).length+([]:List Keyword).length+(if([]:List Keyword).isEmpty then 0 else 1)<30))=true:=by rfl)(hline:(apos.endLine==cpos.line)=true:=by rfl)(hs:Yp (e::es) X.env=(false,aF e X.env)::Yp es X.env:=by rfl)(hplain:(bN cpos (Yp es X.env)).any (·.1)=false:=by rfl):
  C3 X (.Call (.Attribute o "pop" apos) (e::es) [] cpos) (aZ j7 xX f gl):=
 (Er WK PySem.F.slot_list_pop PySem.F.type_list_pop Zt4 ho ha hbase hfew hline hs hplain).imp (Fg Zm9)
end
section
variable {X:Cx} {a b c e o:Expr} {es:List Expr} {pos p apos cpos:aY} {f g h:E3} {gl:cN}
theorem Zmn:cg X (.type "str") (λxs H Q=>(∃i,xs=[.int i]/\i.natAbs.log2<1920/\Q (.str (rD i)) H)\/∃x,xs=[.str x]/\Q (.str x) H):=by
 intro pins s σ H xs us Q I r h;rcases h with h|⟨x,rfl,q⟩
 .exact ZiW pins s σ H xs us Q I r h
 .obtain⟨u,rfl,t,rfl⟩:=vals1 r;exact PySem.P.str_of_str ⟨.str x,H,I,⟨t,rfl⟩,q⟩
theorem uI:cg X (.type "str") (rB X.K dR):=cg.imp Zmn λxs H Q ak=>by
 obtain⟨ι,M,ds,S,rd,h⟩:=ak;cases ds with
 |nil=>exact h.elim|cons d ds=>
  cases ds with
  |cons _ _=>cases d<;>exact h.elim|nil=>
   obtain⟨x,rfl,r⟩:=wA rd;cases d with
   | int i=>
    simp only[Zlp,Zl5]at h;split at h
    .rename_i hz;refine .inl ⟨i,by rw[r.int_inv],hz,Zw.ok h S ?_⟩;have:=Rep.str (K:=X.K) (H:=H) (ι:=ι) (x:=Zd i);exact this
    .exact h.elim
   |str z=>exact .inr ⟨_,by rw[r.str_inv],Zw.ok h S Rep.str⟩|_=>exact h.elim
theorem ZhW{K:Yb}{H:Hp}{ι:List Yq}:∀{x:List D} {ts:List (List Nat)} {vs:List V} {us:List Yd},j_ x=Ya ts->Zt K H ι x vs->Vals vs us->∃l:List (aj×fj),us=Hq l/\l.map (·.1)=ts.map λt=>(⟨t.toArray⟩:aj)
 |[],ns,vs,us,h,r,v=>by
  have e:=r.nil_inv;subst e;cases v;have:ns=[]:=by simpa[j_]using h.symm
  subst this;exact⟨[],rfl,rfl⟩
 | .str i::x,ns,vs,us,h,r,v=>by
  obtain⟨u,vs',rfl,r1,r2⟩:=r.cons_inv;have e:=r1.str_inv;subst e;cases v with
  | @cons _ z _ us' rz rzs=>
  obtain⟨t,rfl⟩:=rz;simp only[j_]at h;cases hx:j_ x with
  |none=>rw[hx]at h;cases h|some ms=>
   rw[hx]at h;have:ns=i::ms:=by simpa using h.symm
   subst this;obtain⟨l,rfl,e⟩:=ZhW hx r2 rzs;exact⟨(_,t)::l,rfl,by simp[e]⟩
 | .non::_,_,_,_,h,_,_=>by simp[j_]at h|.bl _::_,_,_,_,h,_,_=>by simp[j_]at h|.int _::_,_,_,_,h,_,_=>by simp[j_]at h|.tup _::_,_,_,_,h,_,_=>by simp[j_]at h
 | .aH _::_,_,_,_,h,_,_=>by simp[j_]at h|.ref _::_,_,_,_,h,_,_=>by simp[j_]at h
theorem Rp(sep:List Nat):∀ts:List (List Nat),Str.join (⟨sep.toArray⟩:aj) (ts.map λt=>(⟨t.toArray⟩:aj))=⟨(glue sep ts).toArray⟩
 |[]=>rfl|[x]=>rfl|x::y::xs=>by have ih:=Rp sep (y::xs);simp only[Yy]at ih ⊢;simp only[Str.join,glue]at ih ⊢;rw[ih];show(⟨(x.toArray++sep.toArray)++(glue sep (y::xs)).toArray⟩:aj)=_;simp
theorem Zs8{sep:List Nat}{ts:List (List Nat)}(h:lU sep ts<=SZ):JoinOk (⟨sep.toArray⟩:aj) (ts.map λt=>(⟨t.toArray⟩:aj))=true:=by
 have gen:∀(ts:List (List Nat)) (k:Nat),HJ (λx1 (x2:aj)=>x1+x2.length+(⟨sep.toArray⟩:aj).length) k (ts.map λt=>(⟨t.toArray⟩:aj))=k+lU sep ts:=by
  intro ts
  induction ts with
  |nil=>intro k;simp[lU]|cons t ts ih=>intro k;simp only[Yy,Ny,ih];simp[lU,jW];exact Y9 (lD 0 0x321cc0c3210ccc0 T1) (lD 0 0x3210ccc321cc0c0 T1)
 unfold JoinOk Oe;rw[List.foldl_toArray,gen];have:bj>=SZ:=lY;simp only[q_,Bool.not_eq_true',decide_eq_false_iff_not];exactλz=>lC 3 0x6210102011011 T1 z this h
theorem Zsi:mQ X "str.join" (rM X.K dZ):=by
 intro pins s σ H x xs v us Q I rx rs h;obtain⟨ι,M,a,ds,S,ra,rd,h⟩:=h;cases a with
 | str sep=>
  cases ds with
  |nil=>exact h.elim|cons d ds=>
   cases ds with
   |cons _ _=>cases d<;>exact h.elim|nil=>
    cases d with
    | ref n=>
     simp only[Zjt]at h;cases hn:M[n]? with
     |none=>simp only[hn]at h;exact h.elim|some ob=>
      cases ob with
      |dct _=>simp only[hn]at h;exact h.elim|cR _=>simp only[hn]at h;exact h.elim|ins _ _=>simp only[hn]at h;exact h.elim|lst z=>
       simp only[hn]at h;cases hs:j_ z with
       |none=>simp only[hs]at h;exact h.elim|some ts=>
        simp only[hs]at h;split at h
        .rename_i hz;have:=ra.str_inv;subst this;obtain⟨w',ws,rfl,r1,r2⟩:=rd.cons_inv;have:=r2.nil_inv;subst this;obtain⟨p,hp,rfl⟩:=r1.d_;obtain⟨t,rfl⟩:=rx;obtain⟨u,rfl,ru⟩:=vals1 rs;cases ru;obtain⟨vs,e,rv⟩:=S.obj n _ p hn hp;obtain⟨its,rr,pl,zl⟩:=I.list (bQ.of e);obtain⟨l,rfl,el⟩:=ZhW hs rv rr;refine SC.join pl.isList el (Zs8 hz) λt' k=>⟨.str _,H,I.tok _,⟨t',rfl⟩,?_⟩;rw[Txt.join,StrLaws.glued_eq_join,Rp];exact Zw.ok h S Rep.str
        .exact h.elim
    |_=>exact h.elim
 |_=>exact h.elim
theorem qO(ho:C3 X o f)(ha:CA X (e::es) gl)(hbase:oW o "join" X.env (aF o X.env)=aF o X.env:=by rfl)(hfew:((bN cpos (Yp (e::es) X.env)).all (λx=>!x.1)&&(jO cpos (jN [] X.env)).all (λx=>x.1.isSome)
   &&decide ((e::es).length+([]:List Keyword).length+(if([]:List Keyword).isEmpty then 0 else 1)<30))=true:=by rfl)(hline:(apos.endLine==cpos.line)=true:=by rfl)(hs:Yp (e::es) X.env=(false,aF e X.env)::Yp es X.env:=by rfl)(hplain:(bN cpos (Yp es X.env)).any (·.1)=false:=by rfl):
  C3 X (.Call (.Attribute o "join" apos) (e::es) [] cpos) (aZ bC dZ f gl):=
 (Er Iz PySem.F.slot_str_join PySem.F.type_str_join Zsi ho ha hbase hfew hline hs hplain).imp (Fg J8)
end
section
variable {X:Cx} {a b c e o:Expr} {es:List Expr} {pos p apos cpos:aY} {f g h:E3} {gl:cN}
theorem ZmV{prog:Y3}{w:aO}{x:aj}{t:fj}{Q:Yd->Yf->Prop}{y:aj}{u:fj}(hy:(y.length==0)=false)(hz:x.length+2<=bj)(h:∀(l:List (aj×fj)) (k:Nat),l.map (·.1)=Txt.split x y->l.length<=x.length+2->Q (.ref s.heap.objs.size) {s with heap:=s.heap.push {cls:=.type "list",data:=.seq (Hq l).toArray},toks:=k}):
  Y8 (ao prog w) A (call (.builtin "str.split") [.str x t,.str y u]) Q E s:=by
 have e1:=StrLaws.occ_length_le x y 0 x.length (x.length+1);have e2:=length_partsBetween x (zK x y 0 x.length (x.length+1)) y.length;have hn:(Wm x (zK x y 0 x.length (x.length+1)) y.length).length<=bj:=lD 3 0x300321b2c01a2c101a1c021 T1 e2 e1 hz;cases h1:(decide (x.length<y.length)|| decide (Wn x<Wn y))with
 | true=>
  exact vh Ow (zj s x t) Ov (Ou (.str x t) (.str y u)) (meets_str_split_cannot_occur x y t u h1)
   (h [(x,t)] s.toks (if_pos h1).symm (by simp))
 | false=>
  cases hf:(zK x y 0 x.length (x.length+1)).isEmpty with
  | true=>
   exact vh Ow (zj s x t) Ov (Ou (.str x t) (.str y u)) (meets_str_split_not_found x y t u h1 hy hf)
    (h [(x,t)] s.toks ((if_neg (ne_true_of_eq_false h1)).trans (if_pos hf)).symm (by simp))
  |false=>refine vh Ow (zj s x t) Ov (Ou (.str x t) (.str y u)) (meets_str_split_sep x y t u h1 hy hf (lB 1 1099815390209 T1 hz) hn) ?_;rw[strsFrom_eq];refine h (numbered s.toks _) _ ((numbered_texts s.toks _).trans ((if_neg (ne_true_of_eq_false h1)).trans (if_neg (ne_true_of_eq_false hf))).symm) ?_;have e3:=congrArg tV (numbered_texts s.toks (Wm x (zK x y 0 x.length (x.length+1)) y.length));rw[Yg]at e3;exact lD 3 0x21b3c00a3c201a2c1211021 T1 e3 e2 e1
theorem Zhw:cg X (.type "int") (λxs H Q=>∃x n,xs=[.str x]/\intText? x=Ya n/\x.length<=640/\Q (.int n) H):=by intro pins s σ H xs us Q I r h;obtain⟨x,n,rfl,hn,hz,q⟩:=h;obtain⟨u,rfl,t,rfl⟩:=vals1 r;exact PySem.W.KIN.call_text hn hz ⟨.int n,H,I.tok _,⟨_,rfl⟩,q⟩
theorem Zof:cg X (.type "int") (rB X.K lW):=cg.imp (cg.or Zuo Zhw) λxs H Q ak=>by
 obtain⟨ι,M,ds,S,rd,h⟩:=ak
 match ds,rd,h with
 | [.str x],rd,h=>
  obtain⟨v,rfl,r⟩:=wA rd;simp only[JR,JS]at h;cases hn:Hf ⟨x.toArray⟩with
  |none=>rw[hn]at h;exact h.elim|some n=>
   rw[hn]at h;dsimp only at h;split at h
   .rename_i hz;exact .inr ⟨_,n,by rw[r.str_inv],hn,by simpa[jW]using hz,Zw.ok h S Rep.int⟩
   .exact h.elim
 |[],rd,h=>exact h.elim|[.int i],rd,h=>exact .inl ⟨ι,M,_,S,rd,h⟩|[.bl i],rd,h=>exact .inl ⟨ι,M,_,S,rd,h⟩|[.non],rd,h=>exact h.elim
 |[.tup _],rd,h=>exact h.elim|[.aH _],rd,h=>exact h.elim|[.ref _],rd,h=>exact h.elim|.str _::_::_,rd,h=>exact h.elim
 | .int _::_::_,rd,h=>exact h.elim|.bl _::_::_,rd,h=>exact h.elim|.non::_::_,rd,h=>exact h.elim|.tup _::_::_,rd,h=>exact h.elim
 | .aH _::_::_,rd,h=>exact h.elim|.ref _::_::_,rd,h=>exact h.elim
theorem Rq{K:Yb}{H:Hp}{ι:List Yq}:∀(l:List (aj×fj)),Vals (l.map λp=>V.str p.1) (Hq l)/\Zt K H ι ((l.map λp=>p.1.cps.toList).map D.str) (l.map λp=>V.str p.1)
 |[]=>⟨.nil,Zt.nil⟩|p::l=>⟨.cons ⟨p.2,rfl⟩ (Rq (K:=K) (H:=H) (ι:=ι) l).1,Zt.cons (Rep.str (x:=p.1.cps.toList)) (Rq l).2⟩
theorem m_split:mQ X "str.split" (rM X.K mY):=by
 intro pins s σ H x xs v us Q I rx rs h;obtain⟨ι,M,a,ds,S,ra,rd,h⟩:=h;cases a with
 | str z=>
  cases ds with
  |nil=>exact h.elim|cons d ds=>
   cases ds with
   |cons _ _=>cases d<;>exact h.elim|nil=>
    cases d with
    | str y=>
     simp only[Al]at h;split at h
     .rename_i hz;have:=ra.str_inv;subst this;obtain⟨w',ws,rfl,r1,r2⟩:=rd.cons_inv;have:=r2.nil_inv;subst this;have:=r1.str_inv;subst this;obtain⟨t,rfl⟩:=rx;obtain⟨u,rfl,ru⟩:=vals1 rs;obtain⟨t',rfl⟩:=ru;have zl:=lY;refine ZmV ?_ ?_ λl k hl hn=>?_
      .have:=hz.1;simp[jW];intro e;subst e;simp at this
      .simp only[jW,Yl];exact Ym hz.2 zl
      .have hq:=I.fresh;obtain⟨v1,r'⟩:=Rq (K:=X.K) (H:=H) (ι:=ι) l;have e1:(l.map λp=>p.1.cps.toList)=lV z y:=by
        rw[lV,←hl,Dm];rfl
       rw[e1]at r';obtain⟨x2,S2,r2⟩:=S.lst hq r';refine⟨.ref s.heap.objs.size,_,I.laid (λb o' e=>Yh _ e) (Yt _) (show bZ X.prog X.w _ _ _ (.lst (l.map λp=>V.str p.1))from⟨?_,Hq l,_,v1,Yw _ rfl⟩),rfl,h _ _ _ x2 S2 r2⟩;simp only[Yg,jW,Yl]at hn ⊢;exact lD 3 0x300221b1c01320121b1c001 T1 hn zl hz.2
     .exact h.elim
    |_=>exact h.elim
 |_=>exact h.elim
theorem Rr(ho:C3 X o f)(ha:CA X (e::es) gl)(hbase:oW o "split" X.env (aF o X.env)=aF o X.env:=by rfl)(hfew:((bN cpos (Yp (e::es) X.env)).all (λx=>!x.1)&&(jO cpos (jN [] X.env)).all (λx=>x.1.isSome)
   &&decide ((e::es).length+([]:List Keyword).length+(if([]:List Keyword).isEmpty then 0 else 1)<30))=true:=by rfl)(hline:(apos.endLine==cpos.line)=true:=by rfl)(hs:Yp (e::es) X.env=(false,aF e X.env)::Yp es X.env:=by rfl)(hplain:(bN cpos (Yp es X.env)).any (·.1)=false:=by rfl):
  C3 X (.Call (.Attribute o "split" apos) (e::es) [] cpos) (aZ bC mY f gl):=
 (Er Iz PySem.F.slot_str_split PySem.F.type_str_split m_split ho ha hbase hfew hline hs hplain).imp (Fg J8)
end
def ZtF(K:Yb)(H:Hp)(ι:List Yq)(it:JT)(J:It):Prop:=∀(i:Nat) H2 ι2 M2,Ext K H ι H2 ι2->aA K H2 ι2 M2->gm it.lk M2=true ->
 (∀d,it.items[i]?=Ya d->J.go i H2/\∀x H3,J.Jq i H2 x H3->Ext K H2 ι2 H3 ι2/\aA K H3 ι2 M2/\Rep K H3 ι2 d x)/\(i=it.items.length->J.stop i H2)
def yt(K:Yb)(H:Hp)(ι:List Yq)(R:It->Hp->Prop)(r:R3 JT):Prop:=match r with
 | .ok it M'=>∀J H' ι',Ext K H ι H' ι'->aA K H' ι' M'->ZtF K H' ι' it J->R J H'|_=>False
def tIL(K:Yb)(g:rR):TI:=λσ H R=>∃ι M env,aA K H ι M/\bF K H ι env σ/\yt K H ι R (g env M)
def CIL(X:Cx)(tg e:Expr)(g:rR):Prop:=PI X tg e (tIL X.K g)
theorem yt.bind{Q:It->Hp->Prop}{r:R3 α}{k:α->Store->R3 JT}(h:yt K H ι Q (r.bind k)):∃a M,r= .ok a M/\yt K H ι Q (k a M):=by
 cases r with
 |ok a M=>exact⟨a,M,rfl,h⟩|exc x M=>exact h.elim|bad=>exact h.elim
section
variable {X:Cx} {tg:Expr} {pos:aY}
theorem Zqg{iter:Expr}{body:List Yd2}{i:rR}{g:G3}{u:S3}(J0:X.xe=λ_ _=>False)(hc:X.calm=true)(hi:CIL X tg iter i)(hg:CG X tg g)(hb:pR X body u)(hs:∀x,za iter X.env x=pure x:=by intro _;rfl):
  CS X (.For tg iter body [] pos) (yc i g u):=(Ju (by rw[J0];exact Xi) hc hi hg hb hs).imp λD σ H ak=>by
 obtain⟨ι,M,env,S,E,h⟩:=ak;unfold yc at h;cases q:i env M with
 |exc x M1=>rw[q]at h;exact h.elim|bad=>rw[q]at h;exact h.elim|ok it M1=>
  rw[q]at h;refine⟨ι,M,env,S,E,?_⟩;rw[q];intro J H1 ι1 x1 S1 ok;refine⟨λi m σ2 H2=>m=it.items.length-i/\i<=it.items.length/\∃ι2 M2 fW,Ext X.K H1 ι1 H2 ι2/\aA X.K H2 ι2 M2/\bF X.K H2 ι2 fW σ2/\m_ X.K H2 ι2 D (iy it.lk g u (it.items.drop i) fW M2),
   ⟨_,rfl,jU _,ι1,M1,env,Ext.refl,S1,E.mono x1,m_.up x1 h⟩,?_⟩
  rintro i m σ2 H2 ⟨rfl,hi,ι2,M2,fW,x2,S2,E2,h2⟩;by_cases hlt:i<it.items.length
  .have hd:it.items[i]?=Ya it.items[i]:=by simp[hlt]
   rw[xF hlt]at h2
   first|rw[pM]at h2|rw[v8]at h2
   by_cases lk:gm it.lk M2=true
   .rw[if_pos lk]at h2;obtain⟨go,yl⟩:=(ok i H2 ι2 M2 x2 S2 lk).1 _ hd;cases eg:g it.items[i] fW with
    |none=>rw[eg]at h2;exact h2.elim|some kJ=>
     rw[eg]at h2;refine .inr ⟨go,λσ' H'=>∃ι3 M3 i_,Ext X.K H2 ι2 H' ι3/\aA X.K H' ι3 M3/\bF X.K H' ι3 i_ σ'/\m_ X.K H' ι3 D (iy it.lk g u (it.items.drop (i+1)) i_ M3),
      λσ' H' ⟨ι3,M3,i_,x3,S3,E3,h3⟩=>⟨it.items.length-(i+1),lD 2 0x30113c2012a1c0c21 T1 (nQ (lB 1 6991908881 T1 hlt)) (o_ _ _),rfl,hlt,ι3,M3,i_,x2.trans x3,S3,E3,h3⟩,λx H' hy=>?_⟩
     obtain⟨x7,S7,rx⟩:=yl x H' hy;refine⟨ι2,M2,fW,_,kJ,S7,E2.mono x7,rx,eg,λσ' E'=>⟨ι2,M2,kJ,S7,E',?_⟩⟩;have h2':=m_.up x7 h2;cases qu:u kJ M2 with
     |nx e' M'=>simp only[qu]at h2';exactλσ' H' ι' x' S' E'=>⟨ι',M',e',x7.trans x',S',E',h2'.up x'⟩|ct e' M'=>simp only[qu]at h2';exactλσ' H' ι' x' S' E'=>⟨ι',M',e',x7.trans x',S',E',h2'.up x'⟩|bk e' M'=>simp only[qu]at h2';exact h2'|rt d M'=>simp only[qu]at h2';exact h2'
     |exc x' M'=>simp only[qu]at h2';exact h2'.elim|bad=>simp only[qu]at h2';exact h2'.elim
   .rw[if_neg lk]at h2;exact h2.elim
  .have e0:i=it.items.length:=Y9 hi (jT hlt);subst e0;rw[Dj]at h2
   first|rw[pM]at h2|rw[v8]at h2
   by_cases lk:gm it.lk M2=true
   .rw[if_pos lk]at h2;exact .inl ⟨(ok _ H2 ι2 M2 x2 S2 lk).2 rfl,h2 σ2 H2 ι2 Ext.refl S2 E2⟩
   .rw[if_neg lk]at h2;exact h2.elim
end
theorem _root_.L2.Inv.Gz{h':aq}{t':Nat}(I:Inv X pins σ H s)(k:∀b o,b∉fp->s.heap.get? b=Ya o->h'.get? b=Ya o)(hf:∀b∈fp,jf X pins H b):
  Inv X pins σ H {s with heap:=h',toks:=t'}:=by
 have Eg:∀b u,H b=Ya u->b∉fp:=λb u e z=>by rw[(hf b z).1]at e;cases e
 refine I.step (g':=s.gens) (d':=s.drawn) (ch:=fp) (λb hb=>⟨(hf b hb).2.2.2.1,(hf b hb).2.1,(hf b hb).2.2.2.2.1,(hf b hb).2.2.2.2.2⟩) (λb o _ _ hc e _=>k b o hc e) (λb o _ _ hc e _=>⟨o.slots,k b o hc e⟩) (λ_ _ _ _ n=>n)
  (λb o hc e=>⟨o,k b o hc e⟩) (λ_ _ e=>e) (λ_ _ _ e=>e) (λb ps e=>⟨#[],by rw[e];simp⟩) (λm hm=>?_) (λb u e=>?_) I.bare
 .obtain⟨o,es,ep,ho,r⟩:=hm;exact⟨o,es,ep,k _ o (λz=>(hf _ z).2.1 rfl) ho,r⟩
 .refine(I.hok b u e).stay (λc v hc q=>k c v ?_ q) (λ_ q=>q) λ_ _ q=>q;rcases hc with z|z
  .rw[z];exact Eg b u e
  .exact Eg c _ z
theorem Zmk{h' h'':aq}{e it:Yq}{x:V}{tk tk':Nat}(I:Inv X pins σ H s)(hf:∀b∈[e,it],jf X pins H b)(he:e<s.heap.objs.size)(hi:it<s.heap.objs.size)(ru:RelV x u)(hT:h'.get? s.heap.objs.size=Ya {cls:=.type "tuple",data:=.seq #[.int i tk,u]})(hk:∀b o,b≠e->b≠it->s.heap.get? b=Ya o->h'.get? b=Ya o)(hs:zB e h' h''):
  Inv X pins σ (upd H s.heap.objs.size (.tup [.int i,x])) {s with heap:=h'',toks:=tk'}/\∀b∈[e,it],upd H s.heap.objs.size (.tup [.int i,x]) b=Ye:=by
 have hn:∀b∈[e,it],upd H s.heap.objs.size (.tup [.int i,x]) b=Ye:=λb hb=>by
  have:b≠s.heap.objs.size:=by
   simp only[Y1,vz,or_false]at hb;rcases hb with rfl|rfl
   .exact eQ he
   .exact eQ hi
  rw[Zr this];exact(hf b hb).1
 refine⟨?_,hn⟩;have I1:Inv X pins σ (upd H s.heap.objs.size (.tup [.int i,x])) {s with heap:=s.heap.push {cls:=.type "tuple",data:=.seq ([.int i tk,u]:List Yd).toArray},toks:=s.toks}:=I.laid (t':=s.toks) (λb o e=>Yh _ e) (Yt _) (show bZ X.prog X.w _ _ _ (.tup [.int i,x])from⟨by rw[mK];show 2<=_;decide,[.int i tk,u],.cons ⟨tk,rfl⟩ (.cons ru .nil),rF.new _ _⟩);have I3:=I1.Gz (t':=tk') (h':=h'') (fp:=[e,it]) (λb o hb q=>by
  have hbe:b≠e:=λz=>hb (by simp[z]);have hbi:b≠it:=λz=>hb (by simp[z]);rcases V5 q with⟨rfl,rfl⟩|q
  .exact(hs.2 _ (Dr he)).trans hT
  .exact(hs.2 _ hbe).trans (hk b o hbe hbi q)) λb hb=>⟨hn b hb,(hf b hb).2⟩
 exact I3
theorem boot_enumerate:gb "enumerate" =Ya (.type "enumerate"):=by decide +kernel
open AutoSeq1 (wpAny_loadPart')
set_option maxRecDepth 100000
section
variable {prog:Y3} {w:aO} {A:bB} {E:Yd->Yf->Prop} {s:Yf}
theorem Zfy{it t:Yq}{x:Yd}{Q:Yd->Yf->Prop}(hit:s.heap.IsTupleIter it t i)(ht:s.heap.IsTuple t items)(hx:items[i]?=Ya x)(hQ:∀h',h'.IsTupleIter it t (i+1)->zB it s.heap h'->Q x {s with heap:=h'}):Y8 (ao prog w) A (rm (.ref it)) Q E s:=by
 obtain⟨o,ho,hc,hd⟩:=id hit;obtain⟨ol,hol,_,nl,hdl⟩:=ht;unfold rm;refine Yc (u6 (name:=jV "__next__") hit.typeIs Iu
  (u_ Iu hit.typeIs Ws ?_ (Wu _)))
 show Y8 _ _ (tQ (.ref it) 0>>=_) _ _ s;refine Yc (h_ ho hd (x:=.ref t) rfl ?_);show Y8 _ _ (if(Value.ref t==Value.none)=true then _ else _) _ _ s;rw[if_neg (show¬((Value.ref t==Value.none)=true)from o8)];show Y8 _ _ (tQ (.ref it) 1>>=_) _ _ s;refine Yc (h_ ho hd (x:=.int i 0) rfl ?_);show Y8 _ _ (seqItems? (.ref t)>>=_) _ _ s;refine Yc (vd hol hdl ?_);simp only[Dv,hx];refine Yc (CV ho hd (by simp) (Yr ⟨x,rfl,Yr (hQ _ ?_ (Xj ..))⟩));exact⟨_,zA _ ho (OD (DN hd _)),(W5 ..).trans hc,by rw[DN hd];simp[jP]⟩
theorem Zgc{it t:Yq}{Q:Yd->Yf->Prop}(hh:A.handled=Ye)(hit:s.heap.IsTupleIter it t i)(ht:s.heap.IsTuple t items)(hx:items[i]?=Ye)(hE:∀h' e,Heap.ExtBut it s.heap h'->(∃o,h'.get? e=Ya o/\o.cls= .type "StopIteration")->E (.ref e) {s with heap:=h'}):Y8 (ao prog w) A (rm (.ref it)) Q E s:=by
 obtain⟨o,ho,hc,hd⟩:=id hit;obtain⟨ol,hol,_,nl,hdl⟩:=ht;unfold rm;refine Yc (u6 (name:=jV "__next__") hit.typeIs Iu
  (u_ Iu hit.typeIs Ws ?_ (Wu _)))
 show Y8 _ _ (tQ (.ref it) 0>>=_) _ _ s;refine Yc (h_ ho hd (x:=.ref t) rfl ?_);show Y8 _ _ (if(Value.ref t==Value.none)=true then _ else _) _ _ s;rw[if_neg (show¬((Value.ref t==Value.none)=true)from o8)];show Y8 _ _ (tQ (.ref it) 1>>=_) _ _ s;refine Yc (h_ ho hd (x:=.int i 0) rfl ?_);show Y8 _ _ (seqItems? (.ref t)>>=_) _ _ s;refine Yc (vd hol hdl ?_);simp only[Dv,hx];refine Yc (Hl (Yc (CV ho hd (by simp) ?_)));show Y8 _ _ (newExc (.type "StopIteration") []>>=_) _ _ _;refine Yc ?_;simp only[newExc,newTuple];refine Yc (u9 ?_ (by size_fits));refine Yc (m:=firstArgMember _ _) (wpAny_of_eq (a:=Value.none) (by first|rfl|(simp only[firstArgMember];rfl)) ?_);refine u9 ?_ (by size_fits);simp only[raiseNew];refine Yc (wpAny_handled ?_)
 first|rw[show A.in1.handled=Ye from hh]|rw[hh]
 refine Yc (Yr (wpAny_throw ?_));exact hE _ _ (((Xj ..).extBut.push _).push _) ⟨_,Yw _ rfl,rfl⟩
end
end L3
namespace L3
open PySem PySem.Spec PyProof.Rows L2
section
variable {X:Cx}
theorem Zm8:gb "min" =Ya (.builtin "min"):=by decide +kernel
theorem ZnO:gb "max" =Ya (.builtin "max"):=by decide +kernel
theorem ZlS{K:Yb}{H:Hp}{ι:List Yq}{i j:Int}{xs:List V}(r:Zt K H ι [.int i,.int j] xs):xs=[.int i,.int j]:=by obtain⟨v1,vs1,rfl,q1,r⟩:=r.cons_inv;obtain⟨v2,vs2,rfl,q2,r⟩:=r.cons_inv;have:=r.nil_inv;subst this;have e1:=q1.int_inv;have e2:=q2.int_inv;subst e1 e2;rfl
theorem Zot(hc:X.calm=true):cg X (.builtin "max") (rB X.K qH):=cg.imp (ZmF hc) λxs H Q ak=>by
 obtain⟨ι,M,ds,S,rd,h⟩:=ak;unfold qH at h;split at h
 .exact⟨_,_,ZlS rd,h _ H ι Ext.refl S Rep.int⟩
 .exact h.elim
theorem Zo7(hc:X.calm=true):cg X (.builtin "min") (rB X.K qI):=cg.imp (Zmi hc) λxs H Q ak=>by
 obtain⟨ι,M,ds,S,rd,h⟩:=ak;unfold qI at h;split at h
 .exact⟨_,_,ZlS rd,h _ H ι Ext.refl S Rep.int⟩
 .exact h.elim
end
open AutoSeq1 (wpAny_loadPart')
set_option maxRecDepth 100000
section
variable {X:Cx} {o e:Expr} {es:List Expr} {apos cpos:aY} {f:E3} {gl:cN}
theorem Zqp{K:Yb}{T:String}{ty:D->Store->Bool}{m:D->List D->Store->R3 D}(hty:∀H ι M a x,aA K H ι M->Rep K H ι a x->ty a M=true->xU K T x H)(σ:St)(H:Hp)(Q:VK)(h:oA K (aZ ty m f Zf) σ H Q):ZS K T (rM K m) (oA K f) σ H Q:=by
 obtain⟨ι,M,env,S,E,h⟩:=h;obtain⟨a,M1,e1,h⟩:=Zw.bind h;refine⟨ι,M,env,S,E,?_⟩;rw[e1];intro v H1 ι1 x1 S1 r1;by_cases ht:ty a M1=true
 .rw[if_pos ht]at h;exact⟨hty _ _ _ _ _ S1 r1 ht,ι1,M1,a,[],S1,r1,Zt.nil,h.up x1⟩
 .rw[if_neg ht]at h;exact h.elim
end
end L3
namespace L3
open PySem PySem.Spec PyProof.Rows L2
set_option maxRecDepth 100000
noncomputable def Itz(S T:Hp->List V->Prop):It:=⟨λi H=>∃xs ys x y,S H xs/\T H ys/\xs[i]?=Ya x/\ys[i]?=Ya y,λi H x H'=>∃A a b,x= .ref A/\H A=Ye/\H'=upd H A (.tup [a,b])/\(∀xs,S H xs->xs[i]?=Ya a)/\∀ys,T H ys->ys[i]?=Ya b,
 λi H=>∃xs ys,S H xs/\T H ys/\(xs.length<=i\/ys.length<=i)⟩
theorem Zna{X:Cx}{pins:List (Yq×aB)}{σ:St}{H:Hp}{s:Yf}{h' h'':aq}{fp:List Yq}{x y:V}{u v:Yd}{tk':Nat}(I:Inv X pins σ H s)(hf:∀b∈fp,jf X pins H b)(hlt:∀b∈fp,b<s.heap.objs.size)(ru:RelV x u)(rv:RelV y v)(hT:h'.get? s.heap.objs.size=Ya {cls:=.type "tuple",data:=.seq #[u,v]})(hk:∀b o,b∉fp->s.heap.get? b=Ya o->h'.get? b=Ya o)(hs:∀b o,b∉fp->h'.get? b=Ya o->h''.get? b=Ya o):
  Inv X pins σ (upd H s.heap.objs.size (.tup [x,y])) {s with heap:=h'',toks:=tk'}/\∀b∈fp,upd H s.heap.objs.size (.tup [x,y]) b=Ye:=by
 have hn:∀b∈fp,upd H s.heap.objs.size (.tup [x,y]) b=Ye:=λb hb=>by rw[Zr (eQ (hlt b hb))];exact(hf b hb).1
 refine⟨?_,hn⟩;have I1:Inv X pins σ (upd H s.heap.objs.size (.tup [x,y])) {s with heap:=s.heap.push {cls:=.type "tuple",data:=.seq ([u,v]:List Yd).toArray},toks:=s.toks}:=I.laid (t':=s.toks) (λb o e=>Yh _ e) (Yt _) (show bZ X.prog X.w _ _ _ (.tup [x,y])from⟨by rw[mK];show 2<=_;decide,[u,v],.cons ru (.cons rv .nil),rF.new _ _⟩);have nT:s.heap.objs.size∉fp:=λz=>tW _ (hlt _ z);have I3:=I1.Gz (t':=tk') (h':=h'') (fp:=fp) (λb o hb q=>by
  rcases V5 q with⟨rfl,rfl⟩|q
  .exact hs _ _ nT hT
  .exact hs _ _ hb (hk b o hb q)) λb hb=>⟨hn b hb,(hf b hb).2⟩
 exact I3
section
variable {X:Cx} {es:List Expr} {k:Nat} {a b:Expr} {p pos tpos:aY} {f g:E3}
theorem ZmP:gb "zip" =Ya (.type "zip"):=by decide +kernel
end
open PySem PySem.W PyProof.Rows
section
variable {M:Model} {A:bB} {E:Yd->Yf->Prop} {G:Yf->Prop}
def TT(M:Model)(A:bB)(E:Yd->Yf->Prop)(G:Yf->Prop){α:Type}(m:StateT SortSt nG α)(Q:α->SortSt->Prop)(st:SortSt):Prop:=∀s,G s->kasC M A E m (λa st' s'=>Q a st'/\G s') st s
end
end L3
namespace L3
open PySem PySem.Spec PyProof.Rows L2
noncomputable abbrev nm(f:List Nat):aj:=⟨f.toArray⟩
variable{f:List Nat}
theorem Zrb{g:List Nat}(h:nm f=nm g):f=g:=by have:=congrArg (λs:aj=>s.cps.toList) h;simpa using this
section
variable {K:Yb} {H H':Hp} {ι ι':List Yq} {fs:List (List Nat×D)} {gs:List (aj×V)}
theorem iz.nil:iz K H ι [] []:=⟨rfl,Zt.nil⟩
theorem iz.nil_inv(h:iz K H ι [] gs):gs=[]:=Nv.mp h.1
theorem iz.cons_inv{d:D}(h:iz K H ι ((f,d)::fs) gs):∃v gs',gs=(nm f,v)::gs'/\Rep K H ι d v/\iz K H ι fs gs':=by
 cases gs with
 |nil=>cases h.1|cons p gs'=>obtain⟨g,v⟩:=p;obtain⟨h1,h2⟩:=h;rw[Yy,Yy]at h1 h2;obtain⟨e1,e2⟩:=qt h1;obtain⟨v',ws,e,r,q⟩:=h2.cons_inv;obtain⟨rfl,rfl⟩:=qt e;exact⟨v,gs',by rw[show g=nm f from e1],r,e2,q⟩
theorem iz.cons{f:List Nat}{d:D}{v:V}(r:Rep K H ι d v)(h:iz K H ι fs gs):iz K H ι ((f,d)::fs) ((nm f,v)::gs):=⟨by rw[Yy,Yy,h.1],Zt.cons r h.2⟩
theorem iz.length(h:iz K H ι fs gs):gs.length=fs.length:=by have:=congrArg tV h.1;simpa using this
theorem iz.put{d:D}{v:V}(r:Rep K H ι d v):∀{fs:List (List Nat×D)} {gs:List (aj×V)},iz K H ι fs gs->iz K H ι (QM f d fs) (Qc (nm f) v gs)
 |[],_,h=>by rw[h.nil_inv];exact iz.cons r iz.nil|(g,x)::fs,_,h=>by
  obtain⟨w,gs',rfl,r',t⟩:=h.cons_inv;unfold QM Qc;by_cases e:g=f
  .subst e;rw[if_pos rfl,if_pos rfl];exact iz.cons r t
  .rw[if_neg e,if_neg λq=>e (Zrb q)];exact iz.cons r' (t.put r)
end
noncomputable def ZpQ(s:Yd2):List Yd2:=match s with
 | .ClassDef _ _ _ b _ _ _ _ _ _ _=>b|_=>[]
variable{C:Yq}{H:Hp}
theorem Ru{P:Y3}{w:aO}{h:aq}{e:Yq}{dd:Option Yq}(x:v_ e C dd h):bZ P w H h e (lZ e C dd):=⟨x,(let⟨o,_,q,_⟩:=x;⟨o,q⟩),λ_ _ z k=>let⟨o,vs,a,b,c⟩:=z;⟨o,vs,k o a,b,c⟩⟩
theorem Ej{P:Y3}{w:aO}{h:aq}{a:Yq}{o:HO}(x:bZ P w H h a o):∃u,h.get? a=Ya u:=by
 cases o with
 |lst xs=>obtain⟨_,_,_,_,e⟩:=x;exact⟨_,e⟩|tup xs=>obtain⟨_,_,_,o,e,_⟩:=x;exact⟨o,e⟩|dK kvs=>obtain⟨_,_,_,_,o,_,_,e,_⟩:=x;exact⟨o,e⟩|dT kvs=>obtain⟨_,_,_,_,o,_,_,e,_⟩:=x;exact⟨o,e⟩
 |set S n=>obtain⟨o,_,_,_,e,_⟩:=x;exact⟨o,e⟩|ins C dx fs=>obtain⟨_,_,_,e,_⟩:=x;exact⟨_,e⟩|own y=>exact x|xd fs=>obtain⟨_,⟨o,_,_,e,_⟩,_⟩:=x;exact⟨o,e⟩
 |Jh lo hi=>obtain⟨_,_,_,e⟩:=x;exact⟨_,e⟩|bJ ob u=>obtain⟨e,_⟩:=x;exact⟨_,e⟩|vK ps=>exact⟨_,x⟩|met f y=>exact⟨_,x⟩
 |ext φ=>exact x.2.1
def Dct(e:Yq)(dd:Option Yq)(h:aq):Prop:=∃o,h.get? e=Ya o/\o.dict=dd
def rZ(B:aq)(l:List cH)(e C:Yq)(dd:Option Yq)(a0:Yd)(h:aq):Prop:=B.StaysIn h/\B.get? e=Ye/\h.FunFrames B l/\Dct e dd h/\∃fl,h.TracedAtW B e (.ref C) a0 fl
def su(B:aq)(l:List cH)(e C:Yq)(dd:Option Yq)(h:aq):Prop:=∃a0,rZ B l e C dd a0 h\/(B.StaysIn h/\B.get? e=Ye/\h.FunFrames B l/\∃oe vs,h.get? e=Ya oe/\oe.cls= .ref C/\oe.data= .fields vs/\vs[0]?=Ya a0/\vs[1]?=Ya .none/\oe.dict=dd)
section
variable {B h h':aq} {l:List cH} {e C:Yq} {dd:Option Yq}
theorem rZ.Bf{a0:Yd}(f:rZ B l e C dd a0 h):v_ e C dd h:=by obtain⟨_,_,_,⟨o',a',d'⟩,_,o,vs,_,_,_,a,b,c,_⟩:=f;rw[a]at a';cases a';exact⟨_,vs,a,b.1,c,d'⟩
theorem rZ.tail{a0:Yd}{env:cH}(f:rZ B (env::l) e C dd a0 h):rZ B l e C dd a0 h:=let⟨a,b,⟨_,_,c⟩,d⟩:=f;⟨a,b,c,d⟩
theorem su.stays(f:su B l e C dd h):B.StaysIn h:=by
 obtain⟨a0,f|f⟩:=f
 .exact f.1
 .exact f.1
theorem su.Bf(f:su B l e C dd h):v_ e C dd h:=by
 obtain⟨a0,f|⟨_,_,_,oe,vs,a,b,c,_,_,d⟩⟩:=f
 .exact f.Bf
 .exact⟨oe,vs,a,b,c,d⟩
end
section
variable {M:Model} {A:bB} {E:Yd->Yf->Prop} {s:Yf} {B:aq} {env:cH} {outer l:List cH} {L e C:Yq} {dd:Option Yq} {Q:Unit->Yf->Prop}
theorem Zoo(f:Array Yd->Array Yd)(o:aB):(xN f o).dict=o.dict:=by obtain⟨c,d,da,sl⟩:=o;cases da<;>rfl
theorem Zll{oe:aB}{vs:Array Yd}{head a0:Yd}{hadNext:Bool}(hfr:A.frames=Ya (env::outer))(hl:s.heap.FunFrames B (env::outer))(hf:env.frame=Ya L)(he:s.heap.get? e=Ya oe)(hkb:B.StaysIn s.heap)(hen:B.get? e=Ye)(hc:oe.cls= .ref C)(hd:oe.data= .fields vs)(hsz:1<vs.size)(h0:vs[0]?=Ya a0)(hdd:oe.dict=dd)(hQ:∀h',rZ B (env::outer) e C dd a0 h'->s.heap.UpToSlots h'->Q () {s with heap:=h'}):
  Y8 M A (do let a ←frameOf env;let pl ←entryPlaceOf L hadNext;let b ←Xk head a .none (jP L) .none pl;setField (.ref e) 1 b) Q E s:=by
 have Adj:e∉(env::outer).filterMap (·.frame):=λz=>by obtain⟨_,o,q,nf⟩:=hl.mem z;rw[he]at q;cases q;exact nf vs hd
 refine Yc (wpAny_frameOf_fun hfr hl hf λk only=>Yc (wpAny_entryPlaceOf λpl hpl=>?_));unfold Xk newFields;refine Yc (u9 ?_ (hpl.sizeOk5 _ _ _ _ _));have ke:k.get? e=Ya oe:=(only.2.1 e Adj).trans he;have kB:B.StaysIn k:=λb o q=>(only.2.1 b λz=>by rw[(hl.mem z).1]at q;cases q).trans (hkb b o q);generalize hT:({cls:=.type "traceback",dict:=Ye,data:=.fields ([head,.ref L,.none,jP L,.none]++(if pl.isEmpty then Yj 6 Value.none else pl)).toArray}:aB)=tb;have ke2:=Yh (h:=k) tb ke;have ne:k.objs.size≠e:=Dr (Yx ke);have tbd:tb.data= .fields ([head,.ref L,.none,jP L,.none]++(if pl.isEmpty then Yj 6 Value.none else pl)).toArray:=by rw[←hT]
 have fr:tb.isFreed=false:=by rw[←hT];rfl
 have d3:=DN hd (·.setIfInBounds 1 (Value.ref k.objs.size));have e3:=zA (xN (·.setIfInBounds 1 (Value.ref k.objs.size))) ke2 (OD d3);have t3:=(xK (k.push tb) (xN (·.setIfInBounds 1 (Value.ref k.objs.size))) (cQ ne)).trans (Yw k fr);have stay:∀b o,b≠e->k.get? b=Ya o->((k.push tb).update e (xN (·.setIfInBounds 1 (Value.ref k.objs.size)))).get? b=Ya o:=λb o hb q=>(xK _ _ (cQ hb)).trans (Yh _ q);have nr:∀b o,s.heap.get? b=Ya o->(∀vs,o.data≠ .fields vs)->b≠e:=λb o q nf z=>by rw[z,he]at q;cases q;exact nf vs hd
 refine CV ke2 hd hsz (hQ _ ⟨λb o q=>stay b o (λz=>by rw[z,hen]at q;cases q) (kB b o q),hen,hl.of_keeps λb o q nf=>?_,⟨_,e3,?_⟩,jP L,_,_,k.objs.size,_,_,e3,⟨(W5 _ _).trans hc,?_⟩,d3,?_,kB.fresh,ne,t3,tbd,?_⟩ λb o q nf=>?_)
 .obtain⟨sl,z⟩:=only.2.2 b o q;exact⟨_,stay b _ (nr b o q nf) z,rfl⟩
 .exact(Zoo _ _).trans hdd
 .rw[Wx (by decide)];exact h0
 .simp[hsz]
 .first
   |(simp;done)
   |(rcases hpl with rfl|⟨_,_,_,_,_,_,_,rfl⟩<;>simp)
 .obtain⟨sl,z⟩:=only.2.2 b o q;exact⟨sl,stay b _ (nr b o q nf) z⟩
theorem ZnX(hfr:A.frames=Ya (env::outer))(hf:env.frame=Ya L)(f:su B (env::outer) e C dd s.heap)(hQ:∀h' a0,rZ B (env::outer) e C dd a0 h'->s.heap.UpToSlots h'->Q () {s with heap:=h'}):Y8 M A (Dd (.ref e) env) Q E s:=by
 obtain⟨a0,f|⟨f1,f2,f3,oe,vs,he,hc,hd,h0,h1,hdd⟩⟩:=f
 .have f0:=f;obtain⟨f1,f2,f3,dc,fl,ht⟩:=f;by_cases q:fl=jP L
  .rw[q]at ht;exact wpAny_noteFrame_againW hf ht (hQ s.heap a0 f0 (Heap.UpToSlots.refl _))
  .obtain⟨oe,vs,T,oT,ts,he,⟨hcls,h0⟩,hd,h1,hnT,hTe,hT,hdT,h3⟩:=ht;obtain⟨o',ho',hdd⟩:=dc;rw[he]at ho';cases ho';unfold Dd;simp only[hf];refine Yc (h_ he hd h1 ?_);rw[if_pos (show(Value.ref T !=Value.none)=true from by simp)];refine Yc (h_ hT hdT h3 ?_);rw[if_neg (show¬((fl==jP L)=true)from by simpa using q)];refine Yc (CV hT hdT (Iv.mp h3).1 ?_);have other:∀b,b≠T->(s.heap.update T (xN (·.setIfInBounds 3 Value.none))).get? b=s.heap.get? b:=λb hb=>xK _ _ (cQ hb);have nr:∀b o,s.heap.get? b=Ya o->(∀vs,o.data≠ .fields vs)->b≠T:=λb o hb hnf q=>by
    rw[q,hT]at hb;injection hb with hb;subst hb;exact hnf ts hdT
   exact Zll hfr (f3.of_keeps λb o hb hnf=>⟨o,(other b (nr b o hb hnf)).trans hb,rfl⟩) hf ((other e (cQ hTe)).trans he)
    (λb o hbo=>(other b λq=>by rw[q,hnT]at hbo;cases hbo).trans (f1 b o hbo)) f2 hcls hd (Iv.mp h1).1 h0 hdd λh' Bg sl=>hQ h' a0 Bg λb o hb hnf=>sl b o ((other b (nr b o hb hnf)).trans hb) hnf
 .unfold Dd;simp only[hf];refine Yc (h_ he hd h1 ?_);rw[if_neg (by decide)];exact Zll hfr f3 hf he f1 f2 hc hd (Iv.mp h1).1 h0 hdd λh' x y=>hQ h' a0 x y
theorem Rv{a0:Yd}{fo:Option Yq}(f:rZ B l e C dd a0 s.heap)(hQ:∀h',rZ B l e C dd a0 h'->s.heap.UpToSlots h'->Q () {s with heap:=h'}):Y8 M A (setFlight (.ref e) fo) Q E s:=by
 obtain⟨f1,f2,f3,⟨o',ho',hdd⟩,fl,oe,vs,T,oT,ts,he,hcls,hd,h1,hnT,hTe,hT,hdT,h3⟩:=f;rw[he]at ho';cases ho';have hsz:3<ts.size:=(Iv.mp h3).1;unfold setFlight;refine Yc (h_ he hd h1 ?_);rw[if_pos (show(Value.ref T !=Value.none)=true from by simp)];generalize hv:(fo.elim Value.none λf=>jP f)=fv;have other:∀b,b≠T->(s.heap.update T (xN (·.setIfInBounds 3 fv))).get? b=s.heap.get? b:=λb hb=>xK _ _ (cQ hb);have nr:∀b o,s.heap.get? b=Ya o->(∀vs,o.data≠ .fields vs)->b≠T:=λb o hb hnf q=>by rw[q,hT]at hb;injection hb with hb;subst hb;exact hnf ts hdT
 exact CV hT hdT hsz (hQ _ ⟨λb o hbo=>(other b λq=>by rw[q,hnT]at hbo;cases hbo).trans (f1 b o hbo),f2,f3.of_keeps λb o hb hnf=>⟨o,(other b (nr b o hb hnf)).trans hb,rfl⟩,⟨_,(other e (cQ hTe)).trans he,hdd⟩,fv,_,vs,T,_,_,(other e (cQ hTe)).trans he,hcls,hd,h1,hnT,hTe,
  zA _ hT (OD (DN hdT _)),DN hdT _,by simp[hsz]⟩ λb o hb hnf=>⟨o.slots,(other b (nr b o hb hnf)).trans hb⟩)
theorem Zpn(hfr:A.frames=Ya (env::outer))(hf:env.frame=Ya L)(f:su B (env::outer) e C dd s.heap)(hQ:∀h',su B outer e C dd h'->s.heap.UpToSlots h'->Q () {s with heap:=h'}):Y8 M A (Hu env (.ref e)) Q E s:=by unfold Hu;exact Yc (ZnX hfr hf f λh1 a0 x y=>Rv x λh' z y'=>hQ h' ⟨a0,.inl z.tail⟩ (y.trans y'))
end
structure yu(B:aq)(fs ex:List Yq)(H₀:Hp)(h₀:aq)(H:Hp)(e:Yq):Prop where
 xQ:∀b,H b≠Ye->b≠e->∃o,B.get? b=Ya o
 old:∀b o,h₀.get? b=Ya o->H₀ b=Ye->b∉fs->b∉ex->B.get? b=Ya o
 there:∀b o,h₀.get? b=Ya o->b∉fs->b∉ex->∃o',B.get? b=Ya o'
section
variable {B h h' h₀:aq} {fs ex:List Yq} {H H₀:Hp} {e C:Yq} {dd:Option Yq} {P:Y3} {w:aO}
theorem yu.hok(c:yu B fs ex H₀ h₀ H e)(ok:cV P w H h)(he:H e=Ya (lZ e C dd))(s1:B.StaysIn h)(s2:B.StaysIn h')(x:v_ e C dd h'):cV P w H h':=λb u q=>by
 by_cases hb:b=e
 .subst hb;rw[he]at q;cases q;exact Ru x
 .refine(ok b u q).stay (λd v hd z=>?_) (λ_ z=>z) λ_ _ z=>z;have hd':H d≠Ye/\d≠e:=by
   rcases hd with rfl|hd
   .exact⟨by rw[q];simp,hb⟩
   .exact⟨by rw[hd];simp,by rintro rfl;rw[he]at hd;cases hd⟩
  obtain⟨o,ho⟩:=c.xQ d hd'.1 hd'.2;have:=(s1 d o ho).symm.trans z;cases this;exact s2 d _ ho
theorem yu.un(c:yu B fs ex H₀ h₀ H e)(u:Un fs ex H₀ H h₀ h)(s2:B.StaysIn h')(sl:h.UpToSlots h')(nf:∀b∈fs,H₀ b=Ye/\∀o,h₀.get? b=Ya o->∀vs,o.data≠ .fields vs):Un fs ex H₀ H h₀ h' where
 keep:=λb o q n hb hx=>s2 b o (c.old b o q n hb hx)
 slot:=λb o q n hb hx=>by obtain⟨s,e1⟩:=u.slot b o q n hb hx;obtain⟨s',e2⟩:=sl b _ e1 ((nf b hb).2 o q);exact⟨s',e2⟩
 free:=u.free
 there:=λb o q hx=>by
  by_cases hb:b∈fs
  .obtain⟨s,e1⟩:=u.slot b o q (nf b hb).1 hb hx;obtain⟨s',e2⟩:=sl b _ e1 ((nf b hb).2 o q);exact⟨_,e2⟩
  .exact let⟨o',z⟩:=c.there b o q hb hx;⟨o',s2 b o' z⟩
 tups:=u.tups
 kI:=u.kI
 mH:=u.mH
end
noncomputable def kh(P:Y3)(w:aO):nY:=λouter H s E ev s'=>∃e C dd H' B,ev= .ref e/\s'.os=s.os/\rA s'.gens/\Un (frs outer) [] H H' s.heap s'.heap/\cV P w H' s'.heap/\H' e=Ya (lZ e C dd)/\
 su B outer e C dd s'.heap/\yu B (frs outer) [] H s.heap H' e/\E (.ref C) (Ya e) H'
def J9(X:Cx)(e C:Yq)(H':Hp)(s':Yf):Prop:=∃dd,H' e=Ya (lZ e C dd)/\∃B,su B X.stack e C dd s'.heap/\yu B X.fs X.ex X.H₀ X.s₀.heap H' e/\∀p∈X.pn,B.get? p.1=Ya p.2
def XW(X:Cx)(σ:St)(e C:Yq)(H':Hp):Prop:=∀pins s',Inv X pins σ H' s'->J9 X e C H' s'->X.xe (.ref e) s'
noncomputable def EX(X:Cx)(σ:St):XK:=λcv oe H'=>∀e C,cv= .ref C->oe=Ya e->XW X σ e C H'
section
variable {X:Cx} {pins:List (Yq×aB)} {σ:St} {H:Hp} {s s':Yf}
theorem Fi(I:Inv X pins σ H s){b:Yq}{o:aB}(q:X.s₀.heap.get? b=Ya o)(hb:b∉X.fs):b∉frs X.stack:=λz=>by
 rcases Y1.mp (I.wO b z)with e|e
 .exact absurd (Yz (Yx q) I.ok.above) (by rw[e];exact tW _)
 .exact hb e
theorem ZnC(I:Inv X pins σ H s):∀b∈X.fs,X.H₀ b=Ye/\∀o,X.s₀.heap.get? b=Ya o->∀vs,o.data≠ .fields vs:=λb hb=>⟨I.ok.qw b hb,λo q=>by obtain⟨_,o',ho,hd⟩:=I.ok.jL.mem hb;rw[ho]at q;cases q;exact hd⟩
theorem Zu7(I:Inv X pins σ H s){E:XK}{ev:Yd}(h:kh X.prog X.w X.stack H s E ev s'):∃e C H',ev= .ref e/\Inv X pins σ H' s'/\J9 X e C H' s'/\E (.ref C) (Ya e) H':=by
 obtain⟨e,C,dd,H',B,rfl,os,bare,un,hok,he,fl,cv,hE⟩:=h;refine⟨e,C,H',rfl,I.call' os un hok bare (λb z=>nomatch z),⟨dd,he,B,fl,⟨cv.xQ,λb o q n hb hx=>?_,λb o q hb hx=>?_⟩,λp hp=>?_⟩,hE⟩
 .exact cv.old b o (I.base.keep b o q n hb hx) (I.base.free b o q n hx) (Fi I q hb) (λz=>nomatch z)
 .obtain⟨o1,q1⟩:=I.base.there b o q hx;exact cv.there b o1 q1 (Fi I q hb) (λz=>nomatch z)
 .obtain⟨e,n,ne,nf,_⟩:=I.pin p (xH _ hp);exact cv.old p.1 p.2 e n (λz=>(Y1.mp (I.wO p.1 z)).elim ne nf) (λz=>nomatch z)
theorem ZpD(I:Inv X pins σ H s){h':aq}{e:Yq}{vs:List Yd}(m:Heap.MadeExcOf s.heap h' e (.ref C) vs):
  H e=Ye/\Inv X pins σ (upd H e (lZ e C Ye)) {s with heap:=h'}/\J9 X e C (upd H e (lZ e C Ye)) {s with heap:=h'}:=by
 have hn:H e=Ye:=by
  cases q:H e with
  |none=>rfl|some u=>obtain⟨o,ho⟩:=Ej (I.hok e u q);rw[m.new]at ho;cases ho
 obtain⟨t,ht,_,_⟩:=m.there;have xo:v_ e C Ye h':=⟨_,_,ht,rfl,rfl,rfl⟩;have ne:∀b o,s.heap.get? b=Ya o->b≠e:=λb o q z=>by subst z;rw[m.new]at q;cases q
 have un:Un X.fs [] H (upd H e (lZ e C Ye)) s.heap h':=
  ⟨λb u q _ _ _=>m.keeps b u q,
   λb u q _ _ _=>⟨u.slots,m.keeps b u q⟩,
   λb u q n _=>by rw[Zr (ne b u q)];exact n,
   λb u q _=>⟨u,m.keeps b u q⟩,
   λb xs q=>by rw[Zr (lF q hn)];exact q,
   λb u xs q=>by rw[Zr (lF q hn)];exact q,
   λb ps q=>⟨#[],by rw[Zr (lF q hn),q];simp⟩⟩
 have hok:cV X.prog X.w (upd H e (lZ e C Ye)) h':=λb u q=>by
  by_cases hb:b=e
  .subst hb;rw[dz]at q;cases q;exact Ru xo
  .rw[Zr hb]at q;exact(I.hok b u q).stay (λc v _ z=>m.keeps c v z) (λc z=>by rw[Zr (lF z hn)];exact z) λc xs z=>by rw[Zr (lF z hn)];exact z
 refine⟨hn,I.un (t':=s.toks) un hok,Ye,dz,GZ s.heap (frs X.stack),⟨.ref t,.inr ⟨λb o q=>m.keeps b o (GX _ q),?_,?_,_,_,ht,rfl,rfl,rfl,rfl,rfl⟩⟩,⟨λb hb hne=>?_,λb o q n hb hx=>?_,λb o q hb hx=>?_⟩,λp hp=>?_⟩
 .cases q:(GZ s.heap (frs X.stack)).get? e with
  |none=>rfl|some o=>have:=GX _ q;rw[m.new]at this;cases this
 .exact(Uy I.stack λenv he a ha=>Hz.mpr ⟨env,he,ha⟩).of_keeps λb o hb _=>⟨o,m.keeps b o hb,rfl⟩
 .rw[Zr hne]at hb;obtain⟨u,q⟩:=Us.mp hb;obtain⟨o,ho⟩:=Ej (I.hok b u q);exact⟨o,tD _ ho λz=>hb (I.Gy b z)⟩
 .exact tD _ (I.base.keep b o q n hb hx) (Fi I q hb)
 .obtain⟨o1,q1⟩:=I.base.there b o q hx;exact⟨o1,tD _ q1 (Fi I q hb)⟩
 .obtain⟨e,n,ne,nf,_⟩:=I.pin p (xH _ hp);exact tD _ e λz=>(Y1.mp (I.wO p.1 z)).elim ne nf
end
def wB(K:Yb)(H:Hp)(ι:List Yq)(Q:VK)(E:XK)(r:R3 D):Prop:=match r with
 | .ok d M'=>∀v H' ι',Ext K H ι H' ι'->aA K H' ι' M'->Rep K H' ι' d v->Q v H'|.exc x M'=>∀e C H' ι',Ext K H ι H' ι'->aA K H' ι' M'->Rep K H' ι' x.arg (.ref e)->ClsAt K x.cls C->E (.ref C) (Ya e) H'|.bad=>False
variable{ι:List Yq}
theorem wB.up{K:Yb}{H1:Hp}{ι1:List Yq}{Q:VK}{E:XK}{r:R3 D}(e:Ext K H ι H1 ι1)(h:wB K H ι Q E r):wB K H1 ι1 Q E r:=by
 cases r with
 |ok d M=>exactλv H' ι' e' S r=>h v H' ι' (e.trans e') S r|exc x M=>exactλa C H' ι' e' S r=>h a C H' ι' (e.trans e') S r|bad=>exact h
theorem Zw.x{K:Yb}{H:Hp}{ι:List Yq}{Q:VK}{E:XK}{r:R3 D}(h:Zw K H ι Q r):wB K H ι Q E r:=by
 cases r with
 |ok d M=>exact h|exc x M=>exact h.elim|bad=>exact h
noncomputable def Rw(K:Yb)(n:Nat)(F:F3):Sp:=λvs H Q E=>∃ι M ds,aA K H ι M/\Zt K H ι ds vs/\ds.length=n/\wB K H ι Q E (F ds M)
def Zv1(X:Cx)(f:E3):TE:=λσ H Q=>∃ι M env,aA X.K H ι M/\bF X.K H ι env σ/\wB X.K H ι Q (EX X σ) (f env M)
def mz(X:Cx)(any:Bool)(σ:St)(H:Hp)(ι:List Yq)(E:Ends)(r:O3):Prop:=match r with
 | .nx env' M'=>∀σ' H' ι',Ext X.K H ι H' ι'->aA X.K H' ι' M'->bF X.K H' ι' env' σ'->E.nx σ' H'|.bk env' M'=>∀σ' H' ι',Ext X.K H ι H' ι'->aA X.K H' ι' M'->bF X.K H' ι' env' σ'->E.bk σ' H'|.ct env' M'=>∀σ' H' ι',Ext X.K H ι H' ι'->aA X.K H' ι' M'->bF X.K H' ι' env' σ'->E.ct σ' H'|.rt d M'=>∀v H' ι',Ext X.K H ι H' ι'->aA X.K H' ι' M'->Rep X.K H' ι' d v->E.rt v H'
 | .exc x M'=>∀σ' e C H' ι',(any=false->σ'=σ)->Ext X.K H ι H' ι'->aA X.K H' ι' M'->Rep X.K H' ι' x.arg (.ref e)->ClsAt X.K x.cls C->XW X σ' e C H'|.bad=>False
def ZtX(X:Cx)(any:Bool)(f:S3):TS:=λE σ H=>∃ι M env,aA X.K H ι M/\bF X.K H ι env σ/\mz X any σ H ι E (f env M)
def C3X(X:Cx)(e:Expr)(f:E3):Prop:=PE X e (Zv1 X f)
def sy(X:Cx)(any:Bool)(st:Yd2)(f:S3):Prop:=PS X st (ZtX X any f)
def qP(X:Cx)(any:Bool)(st:List Yd2)(f:S3):Prop:=jd X st (ZtX X any f)
variable{σ:St}
theorem mz.up{X:Cx}{any:Bool}{σ1:St}{H1:Hp}{ι1:List Yq}{Q:Ends}{r:O3}(e:Ext X.K H ι H1 ι1)(hs:any=false->σ1=σ)(h:mz X any σ H ι Q r):mz X any σ1 H1 ι1 Q r:=by
 cases r with
 |nx d M=>exactλv H' ι' e' S r=>h v H' ι' (e.trans e') S r|bk d M=>exactλv H' ι' e' S r=>h v H' ι' (e.trans e') S r|ct d M=>exactλv H' ι' e' S r=>h v H' ι' (e.trans e') S r|rt d M=>exactλv H' ι' e' S r=>h v H' ι' (e.trans e') S r
 |exc x M=>exactλσ' a C H' ι' z e' S r=>h σ' a C H' ι' (λq=>(z q).trans (hs q)) (e.trans e') S r|bad=>exact h
theorem ZnI{f:S3}{X:Cx}{any:Bool}{env:Zu}{M:Store}{E:Ends}(h:mz X any σ H ι E (fH f env M)):m_ X.K H ι E (f env M):=by
 unfold fH at h;cases q:f env M with
 |exc x M1=>rw[q]at h;exact h.elim|bad=>rw[q]at h;exact h.elim|nx e M1=>rw[q]at h;exact h|rt e M1=>rw[q]at h;exact h
 |bk e M1=>rw[q]at h;exact h|ct e M1=>rw[q]at h;exact h
section
variable {X:Cx} {any:Bool} {st:Yd2} {sts:List Yd2} {e c1:Expr} {f:E3} {u w:S3} {pos:aY}
theorem J_(h:CS X.je st u):sy X any st (fH u):=λpins s σ H D I z=>by obtain⟨ι,M,env,S,E,hf⟩:=z;exact eO (h pins s σ H D (I.wish _) ⟨ι,M,env,S,E,ZnI (X:=X) hf⟩) (λ_ _ q=>q.oU) λ_ _ z=>dH z
theorem Rx(h:pR X.je sts u):qP X any sts (fH u):=λpins s σ H D I z=>by obtain⟨ι,M,env,S,E,hf⟩:=z;exact eO (h pins s σ H D (I.wish _) ⟨ι,M,env,S,E,ZnI (X:=X) hf⟩) (λ_ _ q=>q.oU) λ_ _ z=>dH z
theorem uJ(h:sy X any st u):qP X any [st] u:=Jo h
theorem Bh(h1:sy X true st u)(h2:qP X true sts w):qP X true (st::sts) (Zo u w):=(Jm h1 h2).imp λD σ H ak=>by
 obtain⟨ι,M,env,S,E,h⟩:=ak;refine⟨ι,M,env,S,E,?_⟩;unfold Zo at h;cases q:u env M with
 |nx e M1=>rw[q]at h;exactλσ' H' ι' x S' E'=>⟨ι',M1,e,S',E',mz.up x (λz=>nomatch z) h⟩|rt e M1=>rw[q]at h;exact h|bk e M1=>rw[q]at h;exact h|ct e M1=>rw[q]at h;exact h
 |exc x M1=>rw[q]at h;exact h|bad=>rw[q]at h;exact h
theorem Ry{x y:List Yd2}(hc:CT X.je c1 f)(ha:qP X any x u)(hb:qP X any y w):sy X any (.If c1 x y pos) (aJ (mZ f) u w):=(YB (PT.je hc) ha hb).imp λD σ H ak=>by
 obtain⟨ι,M,env,S,E,h⟩:=ak;refine⟨ι,M,env,S,E,?_⟩;unfold aJ mZ at h;cases q:f env M with
 | ok d M1=>
  rw[q]at h;cases d with
  |bl k=>
   intro H1 ι1 x1 S1;cases k with
   |true=>rw[if_pos rfl];exact⟨ι1,M1,env,S1,E.mono x1,mz.up x1 (λ_=>rfl) h⟩|false=>rw[if_neg (by decide)];exact⟨ι1,M1,env,S1,E.mono x1,mz.up x1 (λ_=>rfl) h⟩
  |_=>exact h.elim
 |exc x M1=>rw[q]at h;exact h.elim|bad=>rw[q]at h;exact h.elim
theorem ZjL(h:C3X X e f)(hs:xj e Ye pos.line X.env=pure false:=by rfl):sy X any (.Expr e pos) (fG f):=(Jp h hs).imp λD σ H ak=>by
 obtain⟨ι,M,env,S,E,h⟩:=ak;refine⟨ι,M,env,S,E,?_⟩;unfold fG at h;cases q:f env M with
 |ok d M1=>rw[q]at h;exactλv H1 ι1 x1 S1 r1=>h σ H1 ι1 x1 S1 (E.mono x1)|exc x M1=>rw[q]at h;exactλa C H' ι' x1 S1 r1 c1 a' C' e1 e2=>by cases e1;cases e2;exact h σ a C H' ι' (λ_=>rfl) x1 S1 r1 c1|bad=>rw[q]at h;exact h.elim
end
variable{N ps:List aj}
section
variable {P:Y3} {w:aO} {K:Yb} {mg:aj->Option Yd} {base:aq}
theorem Zo9{qual:aj}{scope:Scope}{f:Yq}{cd:Yd}{A:bB}{outer:List cH}{s:Yf}{E:XK}{e:Yq}{H':Hp}(hE:E (.ref C) (Ya e) H'):
  XW (nZ (kh P w) P w K mg base N qual scope f cd A outer s H E) σ e C H':=λpins s' I x=>by
 obtain⟨dd,he,B,fl,cv,_⟩:=x;show Y8 _ _ (Hu _ (.ref e)) _ _ s';refine Zpn I.ok.frames rfl fl λh' Bg sl=>?_;exact⟨e,C,dd,H',B,rfl,I.os,I.bare,cv.un I.base Bg.stays sl (ZnC I),cv.hok I.hok he fl.stays Bg.stays Bg.Bf,he,Bg,cv,hE⟩
theorem Zjv{H':Hp}{ι':List Yq}{M M':Store}{Q:VK}{E:XK}{d:D}{v:V}(S:aA K H ι M)(x:Ext K H ι H' ι')(S':aA K H' ι' M')(r:Rep K H' ι' d v)(h:wB K H ι Q E (mV M d M')):Q v H':=QW S x S' r (by unfold mV at h ⊢;split at h<;>(rename_i c;first|rw[if_pos c]|rw[if_neg c])<;>exact h)
theorem Zwa{x qual:aj}{st:Yd2}{f:Yq}{fd:gM}{k:Nat}{body:S3}(F:pF K x qual st f fd)(S:eU N ps (Zv st))(hb:∀(cdv:Yd) (A:bB) (outer:List cH) (s:Yf) (H:Hp) (E:XK),cL k (A.deeper (k_ qual (Zv st) s.heap.objs.size f cdv))->qP (nZ (kh P w) P w K mg base N qual (Zv st) f cdv A outer s H E) true (jx st) body):
  fC P w K mg base (kh P w) (k+1) f fd ps (Rw K ps.length (dB ps.length N.length body)):=by
 obtain⟨oc,od,dV,kV,doc,pm,an,cdv,ct,osl,rfl,lk,hcd⟩:=F.ex;refine Jx lk hcd S (λvs H Q E ⟨ι,M,ds,_,r,l,_⟩=>by rw[r.length,l]) λA outer s H vs Q E hr ak=>?_;obtain⟨ι,M,ds,SR,r,l,h⟩:=ak;refine⟨_,hb cdv A outer s H E hr,ι,M,ds.map Ya++Yj (N.length-ps.length) Ye,SR,?_,?_⟩
 .have e:L2.start N vs=vs.map Ya++Yj (N.length-ps.length) Ye:=by unfold L2.start;rw[r.length,l]
  rw[e];exact bF.start r _
 .unfold dB at h;rw[if_pos l]at h;cases q:body (ds.map Ya++Yj (N.length-ps.length) Ye) M with
  |nx env' M'=>rw[q]at h;exactλσ' H' ι' x S' E'=>Zjv SR x S' Rep.non h|rt d M'=>rw[q]at h;exactλv H' ι' x S' r'=>Zjv SR x S' r' h|bk _ _=>rw[q]at h;exact h.elim|ct _ _=>rw[q]at h;exact h.elim
  |exc _ _=>rw[q]at h;exactλσ' a C H' ι' _ x S' r' c'=>Zo9 (h a C H' ι' x S' r' c')|bad=>rw[q]at h;exact h.elim
end
section
variable {P:Y3} {w:aO} {K:Yb} {mg:aj->Option Yd} {base:aq}
theorem Zp0{k n:Nat}{f:Yq}{fd:gM}{F:F3}(G:fC P w K mg base (kh P w) k f fd ps (Rw K n F)):fC P w K mg base pD k f fd ps (yg K n F):=
 ⟨λvs H Q E z=>let⟨ι,M,ds,S,r,l,h⟩:=z;G.len vs H Q E0 ⟨ι,M,ds,S,r,l,h.x⟩,λA outer s H args us vs Q E hr he hb hv z=>let⟨ι,M,ds,S,r,l,h⟩:=z;tH (G.run A outer s H args us vs Q E0 hr he hb hv ⟨ι,M,ds,S,r,l,h.x⟩) λr s' z=>by
  cases r with
  |error e=>exfalso;obtain⟨_,_,_,_,_,_,_,_,_,_,_,_,_,z⟩:=z;exact z|ok fl=>cases fl<;>exact z⟩
def qQ(P:Y3)(w:aO)(K:Yb)(mg:aj->Option Yd)(base:aq)(k:Nat)(x:aj)(ps:List aj)(F:F3):Prop:=(∀ds M,ds.length≠ps.length->F ds M= .bad)/\∃f fd,mg x=Ya (.ref f)/\wY K (.ref f)=true/\Binds K fd ps []/\fC P w K mg base (kh P w) k f fd ps (Rw K ps.length F)
theorem qQ.fn{k:Nat}{x:aj}{F:F3}(h:qQ P w K mg base k x ps F):cA P w K mg base k x ps F:=let⟨n,f,fd,a,b,c,d⟩:=h;⟨n,f,fd,a,b,c,Zp0 d⟩
theorem qQ.of{x:aj}{st:Yd2}{k:Nat}{body:S3}(d:dD K mg x st ps)(S:eU N ps (Zv st))(hb:∀(f:Yq) (cdv:Yd) (A:bB) (outer:List cH) (s:Yf) (H:Hp) (E:XK),cL k (A.deeper (k_ x (Zv st) s.heap.objs.size f cdv))->qP (nZ (kh P w) P w K mg base N x (Zv st) f cdv A outer s H E) true (jx st) body):
  qQ P w K mg base (k+1) x ps (dB ps.length N.length body):=by
 obtain⟨f,fd,F,m,bi⟩:=d;exact⟨λds M h=>if_neg h,f,fd,m,F.kp,bi,Zwa F S (hb f)⟩
end
section
variable {X:Cx} {o e:Expr} {es:List Expr} {f:E3} {gl:cN} {c m:List Nat} {C:Yq} {fn x:aj} {pos pos' apos p:aY} {k:Nat} {ps:List aj} {F:F3}
theorem Zt5{fa:Yq}{fd:gM}{sp:Sp}{pins:List (Yq×aB)}{s:Yf}{Q:VK}{us:List Yd}{vs:List V}(G:fC X.prog X.w X.K X.mg X.base (kh X.prog X.w) k fa fd ps sp)(hr:cL k X.A)(hb:Binds X.K fd ps [])(I:Inv X pins σ H s)(r:Vals vs us)(h:sp vs H Q (EX X σ)):Y8 (ao X.prog X.w) X.A (call (.ref fa) us) (EP X pins σ Q) X.xe s:=by
 have hl:(us++[]).length=ps.length:=by rw[iJ,←r.length];exact G.len _ _ _ _ h
 have hb':=hb s us I.bO hl;rw[iJ]at hb';refine qZ (tH (G.run X.A X.stack s H ⟨us,[]⟩ us vs Q (EX X σ) hr I.env0 hb' r h) λr s' hq=>?_);cases r with
 |error e=>obtain⟨e,C,H',rfl,I',x,hE⟩:=Zu7 I hq;exact hE e C rfl rfl pins s' I' x|ok fl=>
  cases fl with
  |ret u=>exact I.after hq|next=>exact dH hq|brk=>exact dH hq|cont=>exact dH hq
theorem Ka{es:List Expr}{pins:List (Yq×aB)}{s:Yf}{M M1:Store}{env:Zu}{ds:List D}{R:List Yd->Yf->Prop}(ha:CA X.je es gl)(I:Inv X pins σ H s)(S:aA X.K H ι M)(E:bF X.K H ι env σ)(q:gl env M= .ok ds M1)(h:∀us s1 vs H1 ι1,Inv X pins σ H1 s1->Vals vs us->Ext X.K H ι H1 ι1->aA X.K H1 ι1 M1->Zt X.K H1 ι1 ds vs->R us s1):Y8 (ao X.prog X.w) X.A (Hs (bN pos (Yp es X.env))) R X.xe s:=by
 refine eO (ha pos pins s σ H (λvs H1=>∃ι1,Ext X.K H ι H1 ι1/\aA X.K H1 ι1 M1/\Zt X.K H1 ι1 ds vs) (I.wish _) ⟨ι,M,env,S,E,?_⟩) (λus s1 z=>?_) λ_ _ z=>dH z
 .rw[q];exactλvs H1 ι1 x1 S1 r1=>⟨ι1,x1,S1,r1⟩
 .obtain⟨vs,H1,I1,r,ι1,x1,S1,r1⟩:=z;exact h us s1 vs H1 ι1 I1.oU r x1 S1 r1
theorem Zlr(G:qQ X.prog X.w X.K X.mg X.base k x ps F)(hr:cL k X.A)(ha:CA X.je (e::es) gl)(hg:Gl X x:=by rfl)(hdb:(x==("__debug__":aj))=false:=by decide)(he:Yp (e::es) X.env=(false,aF e X.env)::Yp es X.env:=by rfl)(hpl:(bN pos (Yp es X.env)).any (·.1)=false:=by rfl):C3X X (.Call (.Name x p) (e::es) [] pos) (aR F (uy gl)):=by
 obtain⟨hn,fa,fd,hm,kp,bi,ok⟩:=G;intro pins s σ H Q I h;obtain⟨ι,M,env,S,E,h⟩:=h;refine CK (vO I hg hm ?_ hdb);unfold aR uy at h;cases q:gl env M with
 |exc _ _=>rw[q]at h;exact h.elim|bad=>rw[q]at h;exact h.elim|ok ds M1=>
  rw[q]at h;have h:wB X.K H ι Q (EX X σ) (F ds M1):=h;have hl:ds.length=ps.length:=by refine OJ λz=>?_;rw[hn ds M1 z]at h;exact h.elim
  exact UJ (h₀:=X.base) I.ok.mod.vM kp (Ka ha I S E q λus s1 vs H1 ι1 I1 r x1 S1 r1=>⟨I1.bO,Zt5 ok hr bi I1 r ⟨ι1,M1,ds,S1,r1,hl,h.up x1⟩⟩) he hpl
end
noncomputable abbrev Rz:List Yd:=[.type "ValueError",.type "Exception",.type "BaseException",.type "object"]
def ZjN(K:Yb)(c:List Nat)(C:Yq):Prop:=ClsAt K c C/\∃(na q:aj) (N:Yq) (bs bm:List Yd) (hdct:Bool) (sn:List aj) (sub:List Yd) (ab:Bool) (col:Option Bool) (dd:Option Yq) (k0 k1 k2 k3 k5:Option Yd),
 K.lookup C=Ya (qd na q C N bs bm hdct sn sub ab col dd k0 k1 k2 k3 k5 "ValueError.__new__")/\(∀h:aq,K.In h->∃mN,h.Ns N mN/\mN "__init__" =Ye)/\∀h:aq,K.In h->OwnTail h Rz bm
theorem Zh5{X:Cx}{any:Bool}{c:List Nat}{x:aj}{np cpos pos:aY}{a:Expr}{as:List Expr}{gl:cN}(O:ZjN X.K c C)(hm:X.mg x=Ya (.ref C))(ha:CA X.je (a::as) gl)(hc:X.calm=true:=by rfl)(hg:Gl X x:=by rfl)(hdb:(x==("__debug__":aj))=false:=by decide)(he:Yp (a::as) X.env=(false,aF a X.env)::Yp as X.env:=by rfl)(hpl:(bN cpos (Yp as X.env)).any (·.1)=false:=by rfl):sy X any (.Raise (Ya (.Call (.Name x np) (a::as) [] cpos)) Ye pos) (uz c gl):=by
 obtain⟨au,na,q,N,bs,bm,hdct,sn,sub,ab,col,dd,k0,k1,k2,k3,k5,lk,hN,hT⟩:=O;intro pins s σ H D I z;obtain⟨ι,M,env,S,E,h⟩:=z;unfold uz at h;cases qg:gl env M with
 |exc _ _=>rw[qg]at h;exact h.elim|bad=>rw[qg]at h;exact h.elim|ok ds M1=>
  rw[qg]at h
  match ds,h,qg with
  |[],h,_=>exact h.elim|_::_::_,h,_=>exact h.elim|[d],h,qg=>
   obtain⟨mN,hns,hni⟩:=hN X.base I.ok.mod.vM;refine wpAny_Raise_call_subU (C:=C) (nm:=na) (q:=q) (N:=N) (bs:=bs) (bm:=bm) (hdct:=hdct) (sn:=sn) (sub:=sub) (ab:=ab) (col:=col) (dd:=dd) (k0:=k0) (k1:=k1) (k2:=k2) (k3:=k3) (k5:=k5)
    Iw (bmB:=Rz) (by decide) Iw (mN:=mN) ((hT X.base I.ok.mod.vM).hasType (by decide)) (I.ok.hd hc) (by rw[he];show(false|| (bN cpos (Yp as X.env)).any (·.1))=false;rw[hpl];rfl) hni (vO I hg hm ⟨rfl,?_⟩ hdb)
   have key:=Ka (pos:=cpos) (R:=λus s2=>us.length<=bj/\s2.heap.get? C=Ya (qd na q C N bs bm hdct sn sub ab col dd k0 k1 k2 k3 k5 "ValueError.__new__")/\s2.heap.Ns N mN/\OwnTail s2.heap Rz bm/\∀h' e,Heap.MadeExcOf s2.heap h' e (.ref C) us->X.xe (.ref e) {s2 with heap:=h'}) ha I S E qg (λus s1 vs H1 ι1 I1 r x1 S1 r1=>by
    refine⟨?_,I1.bO _ _ lk,hns.keeps I1.bk,hT _ I1.bO,λh' e mk=>?_⟩
    .rw[←r.length,r1.length];exact(by decide:1<=bj)
    .obtain⟨hn,I2,wC⟩:=ZpD I1 mk;exact h σ e C _ (ι1++[e]) (λ_=>rfl) (x1.trans (Loose.yX (.inl hn))) (S1.new hn (.inr ⟨C,Ye,dz,rfl,au,.inl rfl⟩)) (Rep.ref (by rw[←S1.len];simp)) au pins _ I2 wC)
   rw[he]at key ⊢;exact DK (eO key (λvs s₂ h₂=>⟨rfl,h₂⟩) λ_ _ y=>y)
noncomputable abbrev inX(X:Cx)(A':bB)(E':Yd->Yf->Prop):Cx:={X with A:=A',calm:=false,xe:=E'}
noncomputable abbrev Kc(X:Cx)(Kd:List (Yq×aB))(E':Yd->Yf->Prop):Cx:={X with pn:=Kd,xe:=E'}
variable{uY:List (Yq×aB)}{E':Yd->Yf->Prop}
section
variable {X:Cx} {pins:List (Yq×aB)} {σ:St} {H:Hp} {s:Yf}
theorem ZlX(I:Inv X pins σ H s)(A':bB)(E':Yd->Yf->Prop)(hf:A'.frames=X.A.frames):Inv (inX X A' E') pins σ H s:=
 let ok:=I.ok
 ⟨⟨ok.mod,ok.kind,ok.glob,ok.blt,ok.above,ok.inj,ok.has,ok.cab,(λz=>nomatch z),hf.trans ok.frames,ok.zR,ok.Ed,ok.bs,ok.nW,ok.wQ,ok.wR,ok.jL,ok.qw⟩,I.os,I.bare,I.base,I.loc,I.cell,I.free,I.jK,I.pin,I.hok,I.len⟩
theorem Znk{σ':St}{H':Hp}{s':Yf}{A':bB}(I:Inv X pins σ H s)(J:Inv (inX X A' E') uY σ' H' s'):Inv X uY σ' H' s':=⟨I.ok,J.os,J.bare,J.base,J.loc,J.cell,J.free,J.jK,J.pin,J.hok,J.len⟩
theorem Zqk(I:Inv X pins σ H s)(E':Yd->Yf->Prop):Inv (Kc X (X.pn++pins) E') [] σ H s:=
 let ok:=I.ok
 ⟨⟨ok.mod,ok.kind,ok.glob,ok.blt,ok.above,ok.inj,ok.has,ok.cab,ok.hd,ok.frames,ok.zR,ok.Ed,ok.bs,ok.nW,ok.wQ,ok.wR,ok.jL,ok.qw⟩,I.os,I.bare,I.base,I.loc,I.cell,I.free,I.jK,λp hp=>I.pin p (by simpa using hp),I.hok,I.len⟩
theorem Fj{σ':St}{H':Hp}{s':Yf}(I:Inv X pins σ H s)(J:Inv (Kc X (X.pn++pins) E') uY σ' H' s'):Inv X pins σ' H' s':=⟨I.ok,J.os,J.bare,J.base,J.loc,J.cell,J.free,J.jK,λp hp=>J.pin p (xH _ hp),J.hok,J.len⟩
theorem Zpv{D:Ends}{f:Flow}{s':Yf}(I:Inv X pins σ H s)(h:SP (Kc X (X.pn++pins) E') uY D f s'):SP X pins D f s':=by
 cases f with
 |next=>obtain⟨σ',H',J,q⟩:=h;exact⟨σ',H',Fj I J,q⟩|brk=>obtain⟨σ',H',J,q⟩:=h;exact⟨σ',H',Fj I J,q⟩|cont=>obtain⟨σ',H',J,q⟩:=h;exact⟨σ',H',Fj I J,q⟩|ret u=>obtain⟨v,σ',H',J,r,q⟩:=h;exact⟨v,σ',H',Fj I J,r,q⟩
theorem Zpb{B h':aq}{e:Yq}{dd:Option Yq}(I:Inv X pins σ H s)(he:H e=Ya (lZ e C dd))(s1:B.StaysIn s.heap)(cv:yu B X.fs X.ex X.H₀ X.s₀.heap H e)(hp:∀p∈X.pn++pins,B.get? p.1=Ya p.2)(s2:B.StaysIn h')(sl:s.heap.UpToSlots h')(xo:v_ e C dd h'):Inv X pins σ H {s with heap:=h'}:=by
 have cellK:∀c v,s.heap.IsCell c v->h'.IsCell c v:=λc v z=>by
  obtain⟨o,ho,hd⟩:=z;obtain⟨s3,e3⟩:=sl c o ho λvs q=>by rw[hd]at q;cases q
  exact⟨_,e3,hd⟩
 refine⟨I.ok,I.os,I.bare,cv.un I.base s2 sl (ZnC I),?_,λx c z=>?_,I.free,I.jK,λp hq=>⟨s2 _ _ (hp p hq),(I.pin p hq).2⟩,cv.hok I.hok he s1 s2 xo,I.len⟩
 .obtain⟨m,hn,hl⟩:=I.loc;refine⟨m,sl.ns hn,λi x v e1 e2 e3=>?_⟩;obtain⟨u,r,l⟩:=hl i x v e1 e2 e3;refine⟨u,r,?_⟩;rcases l with l|⟨k,c,e,z⟩
  .exact .inl l
  .exact .inr ⟨k,c,e,cellK _ _ z⟩
 .obtain⟨v,q⟩:=I.cell x c z;exact⟨v,cellK _ _ q⟩
theorem ZsE{M:Model}{A:bB}{E:Yd->Yf->Prop}{Q:Unit->Yf->Prop}{j:Nat}{n:aj}{pos:aY}(I:Inv X pins σ H s)(hN:X.N.Nodup)(hj:X.N[j]?=Ya n)(hl:X.env.scope.names.lookup n=Ya .local)(h:∀s',Inv X pins (σ.set j Ye) H s'->Q () s'):Y8 M A (do bindName X.env n .none;U9 X.env n pos) Q E s:=by
 have hl':X.env.kindOf n=Ya .local:=hl;have hp:(X.env.scope.kind== .class|| (X.env.scope.kind== .module&&X.env.locals !=X.env.globals))=false:=by rw[I.ok.kind];rfl
 obtain⟨m,hn,hv⟩:=id I.loc;refine Yc (wpAny_bindName (U6 hl' hn (λh₁ hn₁ hs₁=>?_) hp));unfold U9 unbindName deleteName;refine CZ (Yc (C_ (Yc ?_)));simp only[hp,hl'];rw[if_neg (by decide)];refine Yc (wpAny_nsDel_keeps hn₁ λh₂ v hn₂ hs₂=>?_);simp only[Uu,if_true,if_false,Ih,Wg];refine Yr (C_ (h _ ?_));have sb:=hs₁.trans hs₂;have ne:∀b o,X.s₀.heap.get? b=Ya o->b≠X.env.locals:=λb o q=>eQ (Yz (Yx q) I.ok.above);have nt:∀b,H b≠Ye->b≠X.env.locals:=λb q z=>q (by rw[z];exact I.free);have cellK:∀x c,X.env.cells.lookup x=Ya c->∀v,s.heap.IsCell c v->h₂.IsCell c v:=λx c z v q=>by obtain⟨o,ho,hd⟩:=q;exact⟨o,(sb.2 c (I.vN x c z)).trans ho,hd⟩
 refine⟨I.ok,I.os,I.bare,⟨λb o q n hb hx=>?_,λb o q n hb hx=>?_,I.base.free,λb o q hx=>?_,I.base.tups,I.base.kI,I.base.mH⟩,⟨_,hn₂,λi x v' e1 e2 e3=>?_⟩,λx c z=>?_,I.free,I.jK,λp hp=>?_,λb u q=>?_,by rw[vB];exact I.len⟩
 .exact(sb.2 b (ne b o q)).trans (I.base.keep b o q n hb hx)
 .obtain⟨sl,z⟩:=I.base.slot b o q n hb hx;exact⟨sl,(sb.2 b (ne b o q)).trans z⟩
 .obtain⟨o',z⟩:=I.base.there b o q hx;exact⟨o',(sb.2 b (ne b o q)).trans z⟩
 .have hij:i≠j:=λz=>by
   subst z;rw[Vp]at e2;cases q:σ[i]? with
   |none=>rw[q]at e2;simp at e2|some _=>rw[q]at e2;simp at e2
  rw[Y5 (cQ hij)]at e2;obtain⟨u,r,l⟩:=hv i x v' e1 e2 e3;have hxn:x≠n:=λz=>hij (Pu hN e1 (by rw[z];exact hj));refine⟨u,r,?_⟩;rcases l with⟨k,l⟩|⟨k,c,e,z⟩
  .refine .inl ⟨k,?_⟩;show(if x=n then _ else _)=_;rw[if_neg hxn];show(if x=n then _ else _)=_;rw[if_neg hxn];exact l
  .exact .inr ⟨k,c,e,cellK x c e _ z⟩
 .obtain⟨v,q⟩:=I.cell x c z;exact⟨v,cellK x c z v q⟩
 .obtain⟨e,n,ne',r⟩:=I.pin p hp;exact⟨(sb.2 _ ne').trans e,n,ne',r⟩
 .refine(I.hok b u q).stay (λc v hc z=>(sb.2 c (nt c ?_)).trans z) (λ_ z=>z) λ_ _ z=>z;rcases hc with rfl|hc
  .rw[q];simp
  .rw[hc];simp
end
theorem bF.unset{K:Yb}{env:Zu}(r:bF K H ι env σ)(j:Nat):bF K H ι (env.set j Ye) (σ.set j Ye):=by
 refine⟨by simp[r.1],λi d h=>?_⟩;by_cases hij:i=j
 .subst hij;rw[Vp]at h;cases q:env[i]? with
  |none=>rw[q]at h;simp at h|some _=>rw[q]at h;simp at h
 .rw[Y5 (cQ hij)]at h;obtain⟨w,q,z⟩:=r.2 i d h;exact⟨w,by rw[Y5 (cQ hij)];exact q,z⟩
theorem Zr1{X:Cx}{x n:aj}{np pos pos2:aY}{body suite:List Yd2}{b0:Yd2}{cs:List (List Nat)}(j:Nat){b h:S3}{CE:Yq}(hN:X.N.Nodup)(hm:X.mg x=Ya (.ref CE))(hsub:∀c C,cs.contains c=true->ClsAt X.K c C->G4 X.K (.ref C) (.ref CE)=Ya true)(hb:∀Kd E',qP (Kc X Kd E') false body b)(hs:∀A' E',pR (inX X A' E') (b0::suite) h)(hst:X.stack=X.env::X.outer:=by rfl)(hfr:X.env.frame=Ya X.env.locals:=by rfl)(hj:X.N[j]?=Ya n:=by rfl)(hl:X.env.scope.names.lookup n=Ya .local:=by rfl)(hg:Gl X x:=by rfl)(hdb:(x==("__debug__":aj))=false:=by decide):CS X (.Try body [.ExceptHandler (Ya (.Name x np)) (Ya n) (b0::suite) pos] [] [] pos2) (yd cs j b h):=by
 intro pins s σ H D I z;obtain⟨ι,M,env,S,E,hf⟩:=z;refine wpAny_Try_except (eO (hb (X.pn++pins) _ [] s σ H D (Zqk I _) ⟨ι,M,env,S,E,?_⟩) (λf s1 q=>?_) (λ_ _ z=>z))
 rotate_left
 .have q:=Zpv I q;cases f with
  |next=>obtain⟨σ',H',J,q⟩:=q;exact G9 ⟨σ',H',J,q⟩|brk=>exact q|cont=>exact q|ret u=>exact q
 unfold yd at hf;cases q:b env M with
 |nx e M1=>rw[q]at hf;exact hf|rt e M1=>rw[q]at hf;exact hf|bk e M1=>rw[q]at hf;exact hf|ct e M1=>rw[q]at hf;exact hf
 |bad=>rw[q]at hf;exact hf|exc x1 M1=>
  rw[q]at hf;dsimp only at hf;have hc:cs.contains x1.cls=true:=OJ λz=>by rw[if_neg z]at hf;exact hf
  rw[if_pos hc]at hf;intro σ' e C H' ι' hσ xt S1 r1 c1 uY s' J wC;obtain rfl:=hσ rfl;obtain⟨dd,he,B,fl,cv,hpn⟩:=wC;have I1:Inv X pins σ' H' s':=Fj I J;have fl0:su B (X.env::X.outer) e C dd s'.heap:=by rw[←hst];exact fl
  have AdE:X.A.frames=Ya (X.env::X.outer):=by rw[←hst];exact I1.ok.frames
  show Y8 (ao X.prog X.w) X.A (Dd (.ref e) X.env) _ _ s';refine ZnX AdE hfr fl0 λh₄ a0 held sl4=>?_;refine Rv held λh₅ Cy sl5=>?_;have I5:Inv X pins σ' H' {s' with heap:=h₅}:=Zpb I1 he fl.stays cv hpn Cy.1 (sl4.trans sl5) Cy.Bf;have PL:=ZlX I5 (X.A.mark (Ya (.ref e))) (λ_ _=>False) rfl;refine wpAny_handleBy_cons (codeAny_handlers_test (vO PL hg hm ?_ hdb)) (by intro q;cases q);have LT:PySem.W.Looks (ao X.prog X.w) h₅ (typeOf (.ref e)) (.ref C):=by obtain⟨o,vs,a,b,_⟩:=Cy.Bf;exact b▸(PySem.W.Looks.ld a).andThen .now
  refine PySem.W.exm_one (K:=X.K) (cls:=.ref C) I5.bO LT (hsub _ _ hc c1) _ _ _ _ (λ_ _ q=>q) ?_;refine codeAny_handlers_suite_as ?_;refine Rv Cy λh₆ Ul sl6=>?_;have I6:Inv X pins σ' H' {s' with heap:=h₆}:=Zpb (s:={s' with heap:=h₅}) I5 he Cy.1 cv hpn Ul.1 sl6 Ul.Bf;have I6':=ZlX I6 (X.A.mark (Ya (.ref e))) (λ_ _=>False) rfl;refine Px (X:=inX X (X.A.mark (Ya (.ref e))) λ_ _=>False) (v:=.ref e) I6' hN hj (.inl hl) rfl (λs7 I7=>?_) (.inr hl);refine eO (hs (X.A.mark (Ya (.ref e))) (λ_ _=>False) pins s7 (σ'.set j (Ya (.ref e))) H' {nx:=λσ2 H2=>D.nx (σ2.set j Ye) H2,rt:=λ_ _=>False} I7 ⟨ι',M1,env.set j (Ya x1.arg),S1,(E.mono xt).set j r1,?_⟩) (λf s8 q=>?_) (λ_ _ z=>dH z)
  .cases qh:h (env.set j (Ya x1.arg)) M1 with
   |nx e' M2=>rw[qh]at hf;exactλσ2 H2 ι2 x2 S2 E2=>hf _ H2 ι2 (xt.trans x2) S2 (E2.unset j)|rt _ _=>rw[qh]at hf;exact hf.elim|bk _ _=>rw[qh]at hf;exact hf.elim|ct _ _=>rw[qh]at hf;exact hf.elim
   |exc _ _=>rw[qh]at hf;exact hf.elim|bad=>rw[qh]at hf;exact hf.elim
  .cases f with
   |next=>obtain⟨σ2,H2,I8,q⟩:=q;exact ZsE (Znk I I8) hN hj hl λs9 I9=>⟨σ2.set j Ye,H2,I9,q⟩|brk=>exfalso;obtain⟨_,_,_,q⟩:=q;exact q|cont=>exfalso;obtain⟨_,_,_,q⟩:=q;exact q
   |ret u=>exfalso;obtain⟨_,_,_,_,_,q⟩:=q;exact q
end L3
namespace PySem.W
open PySem PySem.Spec PySem.Calls PyProof.Rows Builtin Builtin.ObjectAttr Builtin.Getset_descriptor
section
variable {prog:Y3} {w:aO} {K:Frag} {x D:Yq}
def oV(x D:Yq)(h:aq):Prop:=∃o,h.get? x=Ya o/\o.cls= .ref D
theorem oV.ty{h:aq}(p:oV x D h)(M:Model):Looks M h (typeOf (.ref x)) (.ref D):=by obtain⟨o,a,b⟩:=p;exact b▸(Looks.ld a).andThen .now
theorem Zqm{M:Model}{h:aq}{name:aj}{a g:Yd}(X:K.In h)(ha:findIn K (.ref D) name=Ya (Ya a))(hg:specialIn K a "__get__" =Ya (Ya g))(ht:takesIn K a=Ya true):Looks M h (find (.ref x) (.ref D) name) (.bind g a):=
 (looks_findIn (M:=M) X ha).andThen ((show Looks M h (getOf (Ya a)) (Ya g)from looks_specialIn X hg).andThen
  ((show Looks M h (dataDescriptor? (Ya a) (Ya g)) (Ya (g,a))from(looks_takesIn (M:=M) X ht).andThen .now).andThen (Looks.tag .now)))
theorem Zrt{A:bB}{R:tM->Yf->Prop}{s:Yf}{tp:Yd}(X:K.In s.heap)(p:oV x D s.heap)(hm:mroIn K D (.type "object")=Ya true)(hq:R (.ok (.ret (.ref D))) s):oY (ao prog w) A (.call (.builtin "getset_descriptor.__get__") ⟨[.builtin "object.__class__",.ref x,tp],[]⟩) R s:=by
 obtain⟨hh,gg,dd,tt,oo⟩:=s;have L0:=p.ty (ao prog w);have L1:=looks_mroIn (M:=ao prog w) X hm;refine wZ KF.slot_gs.plain KF.entry_gs (KF.slot_gs.check _ _ _ _ _ _ _ _ KF.type_class (KF.args_gs _ _ _) ?_);unfold Builtin.«getset_descriptor.__get__» descrGet;rw[dga_obj];refine Yc (Yr ?_);unfold descrGetter descrCheckInstance descrNameAndClass Dc;simp only[KF.owner_class]
 repeat lk
 refine⟨I_ _ (by decide +kernel),Vj KF.entry_class ?_⟩;unfold Builtin.«object.__class__» shownTypeOf;repeat lk
 exact hq
theorem Zva{A:bB}{R:tM->Yf->Prop}{s:Yf}{tk:fj}(ha:findIn K (.ref D) "__class__" =Ya (Ya (.builtin "object.__class__")))(hn:specialIn K (.builtin "object.__class__") "__get__" =Ya (Ya (.builtin "getset_descriptor.__get__")))(htk:takesIn K (.builtin "object.__class__")=Ya true)(hm:mroIn K D (.type "object")=Ya true)(hb:mroIn K D (.type "BaseException")=Ya true)(X:K.In s.heap)(p:oV x D s.heap)(hq:R (.ok (.ret (.ref D))) s):oY (ao prog w) A (.call (.builtin "BaseException.__getattribute__") ⟨[.ref x,.str "__class__" tk],[]⟩) R s:=by
 obtain⟨hh,gg,dd,tt,oo⟩:=s;have L0:=p.ty (ao prog w);have L1:=looks_mroIn (M:=ao prog w) X hb;have L3:=Zqm (M:=ao prog w) (x:=x) X ha hn htk;have hk:builtinKind "BaseException.__getattribute__" =Ya .slot:=by decide +kernel
 have hs:splitId "BaseException.__getattribute__" =Ya ("BaseException","__getattribute__"):=by decide +kernel
 have hz:=WX (.ref x) (.str "__class__" tk);refine wZ F.excAttr_ValueError.ga.plain WW ?_;simp only[CP,hk,hs];refine Yc ?_;unfold Dc
 repeat lk
 refine wpAny_run (h:=Ye) (Zrt X p hm ?_);exact Yr (Yr hq)
theorem ZnP{A:bB}{E:Yd->Yf->Prop}{s:Yf}{Q:Option Yd->Yf->Prop}(hg:findIn K (.ref D) "__getattribute__" =Ya (Ya (.builtin "BaseException.__getattribute__")))(hg2:findIn K (.ref D) "__getattr__" =Ya Ye)(ha:findIn K (.ref D) "__class__" =Ya (Ya (.builtin "object.__class__")))(hn:specialIn K (.builtin "object.__class__") "__get__" =Ya (Ya (.builtin "getset_descriptor.__get__")))(htk:takesIn K (.builtin "object.__class__")=Ya true)(hm:mroIn K D (.type "object")=Ya true)(hb:mroIn K D (.type "BaseException")=Ya true)(X:K.In s.heap)(p:oV x D s.heap)(hq:Q (Ya (.ref D)) {s with toks:=s.toks+1}):Y8 (ao prog w) A (getAttr? (.ref x) "__class__") Q E s:=by obtain⟨hh,gg,dd,tt,oo⟩:=s;have L0:=p.ty (ao prog w);have L1:=looks_findIn (M:=ao prog w) X hg;have L2:=looks_findIn (M:=ao prog w) X hg2;have f3:=F.excAttr_ValueError.ga.bind (.ref x);unfold getAttr? getAttrBy? getAttrBy;refine Yc (M_ (Yc (zf (jb (Yc (L0.at (Yc (L1.at ?_))))))));show Y8 _ _ (G_ _ _ _ _ _ _) _ _ _;unfold G_ hookBefore Vg;refine Yc (L2.at (Yc (zf (jb ?_))));show Y8 _ _ (Hg _ _ _) _ _ _;unfold Hg;rw[f3];refine Yc (Yr ?_);refine qZ (Zva ha hn htk hm hb X p ?_);exact handed_on rfl (Yr hq)
theorem AcM(hg:findIn K (.ref D) "__getattribute__" =Ya (Ya (.builtin "BaseException.__getattribute__")))(hg2:findIn K (.ref D) "__getattr__" =Ya Ye)(hb:mroIn K D (.type "BaseException")=Ya true)(hc:(clsIn K D).isSome=true)(ha:findIn K (.ref D) "__class__" =Ya (Ya (.builtin "object.__class__")))(hn:specialIn K (.builtin "object.__class__") "__get__" =Ya (Ya (.builtin "getset_descriptor.__get__")))(htk:takesIn K (.builtin "object.__class__")=Ya true)(hm:mroIn K D (.type "object")=Ya true):
  KitX K (.ref x) (.ref D) (oV x D):=by
 obtain⟨cdD,hcD⟩:=GQ.mp hc;unfold clsIn at hcD;split at hcD
 .rename_i c' d' cd' sl' ho;refine⟨λM h _ p=>p.ty M,λM h X _=>?_,λh tp dd its n sl X htp=>?_,λX p k=>ZnP hg hg2 ha hn htk hm hb X p k⟩
  .intro A' Q' E' s' k q;unfold isType loadHead;exact Yc (MT (k _ _ (X _ _ ho)) (Yr q))
  .refine Wc.mpr λq=>?_;have e:D=tp:=Value.ref.inj (beq_iff_eq.mp q);rw[←e]at htp;cases(X _ _ ho).symm.trans htp
 .cases hcD
theorem fL{t:Yd}{C:Yq}{cd:ClassData}{b:Bool}(cl:clsIn K C=Ya cd)(ty:typeIn K (.ref C)=Ya (.type "type"))(se:subIn K (.ref C) (.ref C)=Ya true)(sb:subIn K t (.ref C)=Ya b):kitOne K t (.ref C)=Ya b:=by
 unfold kitOne;by_cases q:(t== .ref C)=true
 .rw[if_pos q];rw[beq_iff_eq.mp q,se]at sb;exact sb
 .rw[if_neg q];show(if((clsIn K C).isSome&&typeIn K (.ref C)==Ya (.type "type"))=true then subIn K t (.ref C)else Ye)=Ya b;rw[cl,ty,if_pos (by rfl)];exact sb
theorem Mq{t:Yd}{T:String}{b:Bool}(hm:kitMeta T=true)(ne:(t== .type T)=false)(sb:subIn K t (.type T)=Ya b):kitOne K t (.type T)=Ya b:=by unfold kitOne;rw[if_neg (by rw[ne];decide)];show(if kitMeta T=true then subIn K t (.type T)else Ye)=Ya b;rw[if_pos hm];exact sb
theorem fX{t c:Yd}{r:List Yd}{b:Bool}(h:kitOne K t c=Ya false)(hr:kitAny K t r=Ya b):kitAny K t (c::r)=Ya b:=by unfold kitAny;rw[h];exact hr
theorem GJ{t c:Yd}{r:List Yd}(h:kitOne K t c=Ya true):kitAny K t (c::r)=Ya true:=by unfold kitAny;rw[h]
theorem fY{t:Yd}:kitAny K t []=Ya false:=rfl
theorem Um{C CE:Yq}{cd:ClassData}(cl:clsIn K CE=Ya cd)(ty:typeIn K (.ref CE)=Ya (.type "type"))(bs:subIn K (.ref CE) (.type "BaseException")=Ya true)(sb:subIn K (.ref C) (.ref CE)=Ya true):exmOne K (.ref C) (.ref CE)=Ya true:=by unfold exmOne;rw[bs,if_pos (by rfl)];show(if((clsIn K CE).isSome&&typeIn K (.ref CE)==Ya (.type "type"))=true then subIn K (.ref C) (.ref CE)else Ye)=Ya true;rw[cl,ty,if_pos (by rfl)];exact sb
end
end PySem.W
namespace L3
open PySem PySem.Spec PyProof.Rows L2
theorem Zgv:gb "ValueError" =Ya (.type "ValueError"):=by decide +kernel
structure fQ(K:Yb)(C:Yq):Prop where
 ga:fM K (.ref C) "__getattribute__" =Ya (Ya (.builtin "BaseException.__getattribute__"))
 gh:fM K (.ref C) "__getattr__" =Ya Ye
 be:qb K C (.type "BaseException")=Ya true
 cl:(jM K C).isSome=true
 fa:fM K (.ref C) "__class__" =Ya (Ya (.builtin "object.__class__"))
 sp:yZ K (.builtin "object.__class__") "__get__" =Ya (Ya (.builtin "getset_descriptor.__get__"))
 tk:Mw K (.builtin "object.__class__")=Ya true
 mo:qb K C (.type "object")=Ya true
theorem fQ.kit{K:Yb}{C x:Yq}(h:fQ K C):PySem.W.KitX K (.ref x) (.ref C) (PySem.W.oV x C):=PySem.W.AcM h.ga h.gh h.be h.cl h.fa h.sp h.tk h.mo
section
variable {X:Cx} {a:Expr} {es:List Expr} {f:E3} {p p1 p2 pos pt:aY} {x:aj} {C:Yq} {vs:List V} {yes no:List (List Nat)}
structure oE(K:Yb)(yes no:List (List Nat))(cs:List Yd):Prop where
 non:fZ K (.type "NoneType") cs=Ya false
 yes:∀c C,yes.contains c=true->ClsAt K c C->fQ K C/\fZ K (.ref C) cs=Ya true
 no:∀c C,no.contains c=true->ClsAt K c C->fQ K C/\fZ K (.ref C) cs=Ya false
theorem Zou{pins:List (Yq×aB)}{σ:St}{H:Hp}{s:Yf}{ι:List Yq}{M:Store}{d:D}{v:V}{u:Yd}{cs:List Yd}{Q:VK}(I:Inv X pins σ H s)(S:aA X.K H ι M)(r:Rep X.K H ι d v)(ru:RelV v u)(hk:oE X.K yes no cs)(q:Zw X.K H ι Q (iR yes no d M)):
  ∃(t:Yd) (Hc:aq->Prop) (b:Bool),PySem.W.KitX X.K u t Hc/\Hc s.heap/\u≠ .builtin "__main__.__loader__#opaque" /\fZ X.K t cs=Ya b/\Q (.bl b) H:=by
 cases d with
 |non=>have:=r.jJ;subst this;cases(show u=Value.none from ru);exact⟨_,_,false,UL,True.intro,(λz=>nomatch z),hk.non,Zw.ok q S Rep.bl⟩|ref n=>
  rw[QQ]at q;cases hn:M[n]? with
  |none=>rw[hn]at q;exact q.elim|some o=>
   rw[hn]at q;cases o with
   | ins c fs=>cases c with
    |nil=>exact q.elim|cons k c=>cases k with
     |succ _=>exact q.elim|zero=>
       obtain⟨a,ha,rfl⟩:=r.d_;cases(show u=Value.ref a from ru);rcases S.obj n _ a hn ha with⟨_,_,_,_,z,_⟩|⟨C,dd,e,_,au,_⟩
       .exact absurd rfl z.2
       .have au:ClsAt X.K c C:=au;obtain⟨⟨o,ws,h1,h2,_⟩,_⟩:=(show bZ X.prog X.w H s.heap a (lZ a C dd)from I.hok a _ e);have q:Zw X.K H ι Q (if yes.contains c then .ok (.bl true) M else if no.contains c then .ok (.bl false) M else .bad):=q;by_cases hy:yes.contains c=true
        .rw[if_pos hy]at q;obtain⟨k1,k2⟩:=hk.yes c C hy au;exact⟨_,_,true,k1.kit,⟨o,h1,h2⟩,(λz=>nomatch z),k2,Zw.ok q S Rep.bl⟩
        .rw[if_neg hy]at q;by_cases hy:no.contains c=true
         .rw[if_pos hy]at q;obtain⟨k1,k2⟩:=hk.no c C hy au;exact⟨_,_,false,k1.kit,⟨o,h1,h2⟩,(λz=>nomatch z),k2,Zw.ok q S Rep.bl⟩
         .rw[if_neg hy]at q;exact q.elim
   |_=>exact q.elim
 |_=>exact q.elim
theorem ZjH{c:Yd}{cv:V}(hm:X.mg "isinstance" =Ye)(hk:oE X.K yes no [c])(h:C3 X a f)(hv:RelV cv c)(hx:PE X (.Name x p1) (tC cv))(hc:∀u,RelV cv u->u=c)(hg:Gl X "isinstance":=by rfl)(hs:Yp (a::[.Name x p1]) X.env=(false,aF a X.env)::Yp [.Name x p1] X.env:=by rfl)(hs1:Yp (.Name x p1::[]) X.env=(false,aF (.Name x p1) X.env)::Yp [] X.env:=by rfl)(hpl:(bN pos (Yp [.Name x p1] X.env)).any (·.1)=false:=by rfl):C3 X (.Call (.Name "isinstance" p) [a,.Name x p1] [] pos) (e1 (iR yes no) f):=by
 have hcl:cg X (.builtin "isinstance") (λxs H Q=>∃ι M d x,xs=[x,cv]/\aA X.K H ι M/\Rep X.K H ι d x/\Zw X.K H ι Q (iR yes no d M)):=by
  intro pins s σ H xs us Q I r q;obtain⟨ι,M,d,x,rfl,S,rd,q⟩:=q;obtain⟨u,w',rfl,ru,jg⟩:=vals2 r;obtain rfl:=hc _ jg;obtain⟨t,Hc,b,kx,hh,hl,ht,hq⟩:=Zou I S rd ru hk q;have h1:MJ X.K t w'=Ya b:=by
   unfold fZ at ht;split at ht
   .rename_i q;cases ht;exact q
   .rename_i q;rw[q];exact ht
   .cases ht
  exact nD kx I.bO hh h1 hl λtk=>⟨.bl b,H,I.tok _,rfl,hq⟩
 refine(Qf hcl hg hm Ze3 (uh h (uh hx El hs1) hs) (by decide) (by decide) hs hpl).imp λσ H Q ak=>?_;obtain⟨ι,M,env,S,E,h⟩:=ak;obtain⟨d,M1,e1,h⟩:=Zw.bind h;refine⟨ι,M,env,S,E,?_⟩;rw[e1];intro v H1 ι1 x1 S1 r1;exact⟨ι1,M1,d,v,rfl,S1,r1,h.up x1⟩
theorem uK(hm:X.mg "isinstance" =Ye)(hx:X.mg x=Ya (.ref C))(hk:oE X.K yes no [.ref C])(h:C3 X a f)(hg1:Gl X x:=by rfl)(hd:(x==("__debug__":aj))=false:=by decide)(hg:Gl X "isinstance":=by rfl)(hs:Yp (a::[.Name x p1]) X.env=(false,aF a X.env)::Yp [.Name x p1] X.env:=by rfl)(hs1:Yp (.Name x p1::[]) X.env=(false,aF (.Name x p1) X.env)::Yp [] X.env:=by rfl)(hpl:(bN pos (Yp [.Name x p1] X.env)).any (·.1)=false:=by rfl):C3 X (.Call (.Name "isinstance" p) [a,.Name x p1] [] pos) (e1 (iR yes no) f):=ZjH (cv:=.ref C) hm hk h rfl (Jk hg1 hx (v:=.ref C) rfl hd) (λu q=>q) hg hs hs1 hpl
theorem ZnL{T:String}(hm:X.mg "isinstance" =Ye)(hx:X.mg x=Ye)(hv:gb x=Ya (.type T))(hk:oE X.K yes no [.type T])(h:C3 X a f)(hg1:Gl X x:=by rfl)(hn:x≠ "__name__":=by decide)(hd:(x==("__debug__":aj))=false:=by decide)(hg:Gl X "isinstance":=by rfl)(hs:Yp (a::[.Name x p1]) X.env=(false,aF a X.env)::Yp [.Name x p1] X.env:=by rfl)(hs1:Yp (.Name x p1::[]) X.env=(false,aF (.Name x p1) X.env)::Yp [] X.env:=by rfl)(hpl:(bN pos (Yp [.Name x p1] X.env)).any (·.1)=false:=by rfl):C3 X (.Call (.Name "isinstance" p) [a,.Name x p1] [] pos) (e1 (iR yes no) f):=ZjH (cv:=.ty T) hm hk h rfl (X_ hg1 hx hv (v:=.ty T) rfl hn hd) (λu q=>q) hg hs hs1 hpl
end
noncomputable def Fl(es:Array DictEntry):Bool:=es.toList.all λe=>match e.key with
 | .str _ _=>true|_=>false
theorem ZpI{es:Array DictEntry}(h:Fl es=true):StrKeys es:=λe he=>by
 have:=fB.mp h e (Wy.mpr he);split at this
 .rename_i n t q;exact⟨n,t,q⟩
 .cases this
section
variable {K:Yb} {h:aq} {a:Yq} {oc:Yd} {od:Option Yq} {es:Array DictEntry} {ep:Nat} {sl:Array (Option Yd)}
theorem Ke(X:K.In h)(l:K.lookup a=Ya ⟨oc,od,.dict es ep,sl⟩)(sk:Fl es=true):h.Ns a (Dg es):=⟨_,es,ep,X _ _ l,rfl,ZpI sk,λ_=>rfl⟩
theorem Zmf{c:List Nat}{C C':Yq}(x:ClsAt K c C)(y:ClsAt K c C'):C'=C:=by have:=y.symm.trans x;cases this;rfl
theorem jm{P:Yq->Prop}:∀c C,([]:List (List Nat)).contains c=true->ClsAt K c C->P C:=λc C z=>by cases z
theorem iV{P:Yq->Prop}{k:List Nat}{ks:List (List Nat)}{C1:Yq}(x:ClsAt K k C1)(p:P C1)(t:∀c C,ks.contains c=true->ClsAt K c C->P C):∀c C,(k::ks).contains c=true->ClsAt K c C->P C:=λc C z au=>by
 rw[VD,vD]at z;rcases z with z|z
 .rw[beq_iff_eq.mp z]at au;rw[Zmf x au];exact p
 .exact t c C z au
end
section
variable {X:Cx} {tg:Expr} {pos:aY}
theorem Zqe{iter:Expr}{body:List Yd2}{i:I3}{g:G3}{u:S3}(hp:Nm (ao X.prog X.w) X.A X.env X.xe)(hc:X.calm=true)(hi:CI X tg iter i)(hg:CG X tg g)(hb:qP X true body u)(hs:∀x,za iter X.env x=pure x:=by intro _;rfl):
  sy X true (.For tg iter body [] pos) (Am i g u):=(Ju hp hc hi hg hb hs).imp λD σ H ak=>by
 obtain⟨ι,M,env,S,E,h⟩:=ak;unfold Am at h;cases q:i env M with
 |exc x M1=>rw[q]at h;exact h.elim|bad=>rw[q]at h;exact h.elim|ok it M1=>
  rw[q]at h;refine⟨ι,M,env,S,E,?_⟩;rw[q];intro J H1 ι1 x1 S1 ok;refine⟨λi m σ2 H2=>m=it.items.length-i/\i<=it.items.length/\∃ι2 M2 fW,Ext X.K H1 ι1 H2 ι2/\aA X.K H2 ι2 M2/\bF X.K H2 ι2 fW σ2/\mz X true σ2 H2 ι2 D (jz it g u (it.items.drop i) fW M2),
   ⟨_,rfl,jU _,ι1,M1,env,Ext.refl,S1,E.mono x1,mz.up x1 (λz=>nomatch z) h⟩,?_⟩
  rintro i m σ2 H2 ⟨rfl,hi,ι2,M2,fW,x2,S2,E2,h2⟩;by_cases hlt:i<it.items.length
  .have hd:it.items[i]?=Ya it.items[i]:=by simp[hlt]
   rw[xF hlt]at h2
   first|rw[ut]at h2|rw[ur]at h2
   by_cases lk:locked it M2=true
   .rw[if_pos lk]at h2;obtain⟨go,yl⟩:=(ok i H2 ι2 M2 x2 S2 lk).1 _ hd;cases eg:g it.items[i] fW with
    |none=>rw[eg]at h2;exact h2.elim|some kJ=>
     rw[eg]at h2;refine .inr ⟨go,λσ' H'=>∃ι3 M3 i_,Ext X.K H2 ι2 H' ι3/\aA X.K H' ι3 M3/\bF X.K H' ι3 i_ σ'/\mz X true σ' H' ι3 D (jz it g u (it.items.drop (i+1)) i_ M3),
      λσ' H' ⟨ι3,M3,i_,x3,S3,E3,h3⟩=>⟨it.items.length-(i+1),by omega,rfl,hlt,ι3,M3,i_,x2.trans x3,S3,E3,h3⟩,λx H' hy=>?_⟩
     obtain⟨rfl,rx⟩:=yl x H' hy;refine⟨ι2,M2,fW,_,kJ,S2,E2,rx,eg,λσ' E'=>⟨ι2,M2,kJ,S2,E',?_⟩⟩;cases qu:u kJ M2 with
     |nx e' M'=>simp only[qu]at h2;exactλσ' H' ι' x' S' E'=>⟨ι',M',e',x',S',E',h2.up x' (λz=>nomatch z)⟩|ct e' M'=>simp only[qu]at h2;exactλσ' H' ι' x' S' E'=>⟨ι',M',e',x',S',E',h2.up x' (λz=>nomatch z)⟩|bk e' M'=>simp only[qu]at h2;exact h2|rt d M'=>simp only[qu]at h2;exact h2
     |exc x' M'=>simp only[qu]at h2;exactλRB a C H' ι' _=>h2 RB a C H' ι' (λz=>nomatch z)|bad=>simp only[qu]at h2;exact h2.elim
   .rw[if_neg lk]at h2;exact h2.elim
  .have e0:i=it.items.length:=Y9 hi (jT hlt);subst e0;rw[Dj]at h2
   first|rw[ut]at h2|rw[ur]at h2
   by_cases lk:locked it M2=true
   .rw[if_pos lk]at h2;exact .inl ⟨(ok _ H2 ι2 M2 x2 S2 lk).2 rfl,h2 σ2 H2 ι2 Ext.refl S2 E2⟩
   .rw[if_neg lk]at h2;exact h2.elim
theorem ZjX{iter:Expr}{body:List Yd2}{i:rR}{g:G3}{u:S3}(hp:Nm (ao X.prog X.w) X.A X.env X.xe)(hc:X.calm=true)(hi:CIL X tg iter i)(hg:CG X tg g)(hb:qP X true body u)(hs:∀x,za iter X.env x=pure x:=by intro _;rfl):
  sy X true (.For tg iter body [] pos) (qJ i g u):=(Ju hp hc hi hg hb hs).imp λD σ H ak=>by
 obtain⟨ι,M,env,S,E,h⟩:=ak;unfold qJ at h;cases q:i env M with
 |exc x M1=>rw[q]at h;exact h.elim|bad=>rw[q]at h;exact h.elim|ok it M1=>
  rw[q]at h;refine⟨ι,M,env,S,E,?_⟩;rw[q];intro J H1 ι1 x1 S1 ok;refine⟨λi m σ2 H2=>m=it.items.length-i/\i<=it.items.length/\∃ι2 M2 fW,Ext X.K H1 ι1 H2 ι2/\aA X.K H2 ι2 M2/\bF X.K H2 ι2 fW σ2/\mz X true σ2 H2 ι2 D (iy it.lk g u (it.items.drop i) fW M2),
   ⟨_,rfl,jU _,ι1,M1,env,Ext.refl,S1,E.mono x1,mz.up x1 (λz=>nomatch z) h⟩,?_⟩
  rintro i m σ2 H2 ⟨rfl,hi,ι2,M2,fW,x2,S2,E2,h2⟩;by_cases hlt:i<it.items.length
  .have hd:it.items[i]?=Ya it.items[i]:=by simp[hlt]
   rw[xF hlt]at h2
   first|rw[pM]at h2|rw[v8]at h2
   by_cases lk:gm it.lk M2=true
   .rw[if_pos lk]at h2;obtain⟨go,yl⟩:=(ok i H2 ι2 M2 x2 S2 lk).1 _ hd;cases eg:g it.items[i] fW with
    |none=>rw[eg]at h2;exact h2.elim|some kJ=>
     rw[eg]at h2;refine .inr ⟨go,λσ' H'=>∃ι3 M3 i_,Ext X.K H2 ι2 H' ι3/\aA X.K H' ι3 M3/\bF X.K H' ι3 i_ σ'/\mz X true σ' H' ι3 D (iy it.lk g u (it.items.drop (i+1)) i_ M3),
      λσ' H' ⟨ι3,M3,i_,x3,S3,E3,h3⟩=>⟨it.items.length-(i+1),by omega,rfl,hlt,ι3,M3,i_,x2.trans x3,S3,E3,h3⟩,λx H' hy=>?_⟩
     obtain⟨x7,S7,rx⟩:=yl x H' hy;refine⟨ι2,M2,fW,_,kJ,S7,E2.mono x7,rx,eg,λσ' E'=>⟨ι2,M2,kJ,S7,E',?_⟩⟩;have h2':=mz.up (any:=true) (σ1:=σ2) x7 (λz=>nomatch z) h2;cases qu:u kJ M2 with
     |nx e' M'=>simp only[qu]at h2';exactλσ' H' ι' x' S' E'=>⟨ι',M',e',x7.trans x',S',E',h2'.up x' (λz=>nomatch z)⟩|ct e' M'=>simp only[qu]at h2';exactλσ' H' ι' x' S' E'=>⟨ι',M',e',x7.trans x',S',E',h2'.up x' (λz=>nomatch z)⟩|bk e' M'=>simp only[qu]at h2';exact h2'|rt d M'=>simp only[qu]at h2';exact h2'
     |exc x' M'=>simp only[qu]at h2';exactλRB a C H' ι' _=>h2' RB a C H' ι' (λz=>nomatch z)|bad=>simp only[qu]at h2';exact h2'.elim
   .rw[if_neg lk]at h2;exact h2.elim
  .have e0:i=it.items.length:=Y9 hi (jT hlt);subst e0;rw[Dj]at h2
   first|rw[pM]at h2|rw[v8]at h2
   by_cases lk:gm it.lk M2=true
   .rw[if_pos lk]at h2;exact .inl ⟨(ok _ H2 ι2 M2 x2 S2 lk).2 rfl,h2 σ2 H2 ι2 Ext.refl S2 E2⟩
   .rw[if_neg lk]at h2;exact h2.elim
end
noncomputable def RD(K:Yb)(d:List aj)(v:Yd):Bool:=match v with
 | .ref a=>(match K.lookup a with
  |some o=>o.cls== .type "tuple" &&o.dict.isNone&&(match o.data with| .seq vs _=>decide (vs.size<=1000)&&KTD.strsLook vs.toList d|_=>false)
  |none=>false)
 |_=>false
noncomputable def Kf(t:qK):List (aj×List aj):=t.map λp=>(⟨p.1.toArray⟩,p.2.map λy=>⟨y.toArray⟩)
def ZuP(K:Yb)(d:List aj)(v:Yd):Prop:=∃a,v= .ref a/\∀H,cJ K H a (d.map V.str)
theorem Zmd:∀{vs:List Yd} {d:List aj},StrsAre vs d->Vals (d.map V.str) vs:=by
 intro vs d h
 induction h with
 |nil=>exact .nil|cons _ _ _ ih=>exact .cons ⟨_,rfl⟩ ih
theorem ZpV{K:Yb}{d:List aj}{v:Yd}(h:RD K d v=true):ZuP K d v:=by
 unfold RD at h;split at h
 .rename_i a;refine⟨a,rfl,λH=>?_⟩;split at h
  .rename_i o ho;simp only[gQ]at h;obtain⟨⟨h1,h2⟩,h3⟩:=h;split at h3
   .rename_i vs n hd;simp only[gQ,decide_eq_true_eq]at h3;exact .inr ⟨o,vs,n,ho,⟨beq_iff_eq.mp h1,by simpa using h2⟩,hd,Ym h3.1 (by rw[mK];decide),Zmd (KTD.strs_of_look h3.2)⟩
   .cases h3
  .cases h
 .cases h
abbrev wD(K:Yb)(a:Yq)(t:qK):Prop:=KTD.tabLook (RD K) (λb=>K.lookup b) a (Kf t)=true
theorem wD.at{K:Yb}{a:Yq}{t:qK}{h:aq}(T:wD K a t)(X:K.In h):zN (ZuP K) h a (Kf t):=KTD.tab_of_look (λ_ _ q=>ZpV q) X T
theorem Kg(x:List Nat):∀t:qK,rC (⟨x.toArray⟩:aj) (Kf t)=(tabAt x t).map λds=>ds.map λy=>(⟨y.toArray⟩:aj)
 |[]=>rfl|(k,v)::r=>by
  show(if decide ((⟨x.toArray⟩:aj)=⟨k.toArray⟩)=true then Ya (v.map λy=>(⟨y.toArray⟩:aj))else rC ⟨x.toArray⟩ (Kf r))=(if x=k then Ya v else tabAt x r).map _;by_cases e:x=k
  .subst e;rw[if_pos rfl,if_pos (decide_eq_true rfl)];rfl
  .rw[if_neg e,if_neg (by simp[e]),Kg x r]
theorem RG{K:Yb}{H:Hp}{ι:List Yq}:∀ds:List (List Nat),Zt K H ι (ds.map D.str) ((ds.map λy=>(⟨y.toArray⟩:aj)).map V.str)
 |[]=>Zt.nil|_::ds=>Zt.cons Rep.str (RG ds)
variable{Q:Yd->Yf->Prop}{R:List aj->Yd->Prop}{T:List (aj×List aj)}
section
variable {prog:Y3} {w:aO} {A:bB} {E:Yd->Yf->Prop} {s:Yf} {a:Yq} {K:Yb} {t:qK} {x:List Nat} {tk:fj}
theorem Bj{δ:Type}{R:δ->Yd->Prop}{T:List (aj×δ)}(h:zN R s.heap a T):s.TypeIs (.ref a) "dict":=let⟨_,o,_,_,ho,hc,_⟩:=h;⟨o,ho,hc.1⟩
theorem Zjz{δ:Type}{R:δ->Yd->Prop}{T:List (aj×δ)}{k:aj}{Q:Option Yd->Yf->Prop}(h:zN R s.heap a T)(hs:∀d v,rC k T=Ya d->R d v->Q (Ya v) {s with toks:=s.toks+1})(hn:rC k T=Ye->Q Ye {s with toks:=s.toks+1}):Y8 (ao prog w) A (Hv a (.str k tk)) Q E s:=by
 obtain⟨_,o,es,ep,ho,hc,hd,hr⟩:=h;unfold Hv
 try with_reducible refine jb ?_
 refine Yc (Ve (Yc (KTD.kt_dictFind_strs (s:={s with toks:=s.toks+1}) ho hd (by obtain⟨es⟩:=es;simpa using hr.exact) ?_)));have key:Q (findBy (λq v=>v.isStr q) es k) {s with toks:=s.toks+1}:=by
  rw[show findBy (λq v=>v.isStr q) es k=(es.toList.find? λz=>z.key.isStr k).map (·.val)by obtain⟨es⟩:=es;simp[findBy]];cases e:rC k T with
  |none=>rw[hr.find_none e];exact hn e|some d=>obtain⟨v,hv,r⟩:=hr.find_some e;rw[hv];exact hs d v e r
 rw[findBy_of_findIdx?]at key;cases e:es.findIdx? λz=>z.key.isStr k with
 |none=>rw[e]at key;exact Yr key|some j=>rw[e]at key;exact Yc (wpAny_dictEntries (s:={s with toks:=s.toks+1}) ho hd (Yr key))
theorem Zmh{k:aj}:
  MeetsIn prog w (Builtin.«dict.get» ⟨[.ref a,.str k tk],[]⟩) λ_ Z s=>zN R s.heap a T/\(∀d v,rC k T=Ya d->R d v->Z (.ok (.ret v)) {s with toks:=s.toks+1})/\(rC k T=Ye->Z (.ok (.ret .none)) {s with toks:=s.toks+1}):=
 .of_wp λA Z s zz=>by obtain⟨h,h1,h2⟩:=zz;show Y8 _ _ (Hv a (.str k tk)>>=λo=>_) _ _ s;refine Yc (Zjz h (λd v e r=>Yr ⟨v,rfl,h1 d v e r⟩) λe=>?_);show Y8 _ _ (Builtin.Dict.missed a (.str k tk)>>=λo=>_) _ _ _;exact Yc (wpAny_missed_other h.1 (Yr ⟨Value.none,rfl,h2 e⟩))
theorem Zp2{k:aj}(h:zN R s.heap a T)(h1:∀d v,rC k T=Ya d->R d v->Q v {s with toks:=s.toks+1})(h2:rC k T=Ye->Q .none {s with toks:=s.toks+1}):Y8 (ao prog w) A (call (.builtin "dict.get") [.ref a,.str k tk]) Q E s:=call_meetsIn WL (Bj h) PySem.F.entry_dict_get (PySem.F.args_dict_get_2 _ _) (Zmh (R:=R) (T:=T)) ⟨h,h1,h2⟩
theorem Zor{k:aj}{d:List aj}(h:zN R s.heap a T)(e:rC k T=Ya d)(h1:∀v,R d v->Q v {s with toks:=s.toks+1}):Y8 (ao prog w) A (oZ (.ref a) (.str k tk)) Q E s:=by
 unfold oZ
 try with_reducible refine jb ?_
 refine Yc (MN (Bj h) (by decide) ?_);refine Yc (u6 (name:=jV "__getitem__") (Bj h) WD
  (u_ WD (Bj h) PySem.F.entry_dict_getitem ?_ (PySem.F.args_dict_getitem_2 _ _)))
 show Y8 _ _ (Hv a (.str k tk)>>=λo=>_) _ _ s;refine Yc (Zjz h (λd' v e' r=>?_) λe'=>by rw[e]at e';cases e');rw[e]at e';cases e';exact Yr ⟨v,rfl,Yr (h1 v r)⟩
end
section
variable {X:Cx} {e:Expr} {x:aj} {a:Yq} {t:qK} {npos apos cpos pos:aY} {g:E3}
theorem Zsh{te:TE}(hm:X.mg x=Ya (.ref a))(ht:wD X.K a t)(he:PE X e te)(m:M1 X (.Name x npos) "get" apos e cpos)(hg:Gl X x)(hd:(x==("__debug__":aj))=false):
  PE X (.Call (.Attribute (.Name x npos) "get" apos) [e] [] cpos) (λσ H Q=>te σ H λy H1=>∃k,y= .str ⟨k.toArray⟩/\match tabAt k t with
   |some ds=>∀b,cJ X.K H1 b ((ds.map λz=>(⟨z.toArray⟩:aj)).map V.str)->Q (.ref b) H1|none=>Q .non H1):=by
 intro pins s σ H Q I h;refine wpAny_Call_method m.base m.few m.line PySem.F.plainAttrs_dict WL PySem.F.type_dict_get (aP (Jk (v:=.ref a) (u:=.ref a) hg hm rfl hd pins s σ H (λv H'=>v= .ref a/\H'=H) I ⟨rfl,rfl⟩) λu s1 ak=>?_);obtain⟨v,H1,I1,r1,rfl,rfl⟩:=ak;obtain rfl:u=Value.ref a:=r1;have T1:=ht.at I1.bO;refine⟨Bj T1,λb q=>?_,?_⟩
 .cases q
  obtain⟨_,ob,_,_,h1,h2,_⟩:=T1;exact⟨ob,h1,h2.2.1⟩
 rw[m.trees];refine Oz rfl (DK (W2 (aP (he pins s1 σ H1 _ I1 h) λiv s2 Fo=>W3 ?_)));obtain⟨y,H2,I2,ry,k,rfl,q⟩:=Fo;obtain⟨tk,rfl⟩:=ry;refine Zp2 (ht.at I2.bO) (λd v ed rv=>?_) λed=>?_
 .rw[Kg]at ed;cases et:tabAt k t with
  |none=>rw[et]at ed;cases ed|some ds=>rw[et]at ed q;cases ed;obtain⟨b,rfl,sq⟩:=rv;exact⟨.ref b,H2,I2.tok _,rfl,q b (sq _)⟩
 .rw[Kg]at ed;cases et:tabAt k t with
  |some ds=>rw[et]at ed;cases ed|none=>rw[et]at q;exact⟨.non,H2,I2.tok _,rfl,q⟩
theorem ZsP(hm:X.mg x=Ya (.ref a))(ht:wD X.K a t)(he:C3 X e g)(m:M1 X (.Name x npos) "get" apos e cpos:=by exact⟨rfl,rfl,rfl,rfl⟩)(hg:Gl X x:=by rfl)(hd:(x==("__debug__":aj))=false:=by decide):
  C3 X (.Call (.Attribute (.Name x npos) "get" apos) [e] [] cpos) (e1 (v9 t) g):=(Zsh hm ht he m hg hd).imp λσ H Q ak=>by
 obtain⟨ι,M,env,S,E,h⟩:=ak;obtain⟨d,M1,e1,h⟩:=Zw.bind h;refine⟨ι,M,env,S,E,?_⟩;rw[e1];intro y H1 ι1 x1 S1 r1;cases d with
 |str k=>
  cases r1.str_inv
  refine⟨k,rfl,?_⟩;simp only[v9]at h;cases et:tabAt k t with
  |none=>rw[et]at h;exact h _ H1 ι1 x1 S1 Rep.non|some ds=>rw[et]at h;exactλb sq=>h _ H1 ι1 x1 S1 (Rep.tup sq (RG ds))
 |_=>exact h.elim
theorem ZpC{te:TE}(hm:X.mg x=Ya (.ref a))(ht:wD X.K a t)(he:PE X e te)(hs:zY e)(hg:Gl X x)(hd:(x==("__debug__":aj))=false):
  PE X (.Subscript (.Name x npos) e pos) (λσ H Q=>te σ H λy H1=>∃k ds,y= .str ⟨k.toArray⟩/\tabAt k t=Ya ds/\∀b,cJ X.K H1 b ((ds.map λz=>(⟨z.toArray⟩:aj)).map V.str)->Q (.ref b) H1):=by
 intro pins s σ H Q I h;refine Zl0 PySem.F.slot_dict_getitem.lookup hs (aP (Jk (v:=.ref a) (u:=.ref a) hg hm rfl hd pins s σ H (λv H'=>v= .ref a/\H'=H) I ⟨rfl,rfl⟩) λu s1 ak=>?_);obtain⟨v,H1,I1,r1,rfl,rfl⟩:=ak;obtain rfl:u=Value.ref a:=r1;refine aP (he pins s1 σ H1 _ I1 h) λiv s2 Fo=>?_;obtain⟨y,H2,I2,ry,k,ds,rfl,et,q⟩:=Fo;obtain⟨tk,rfl⟩:=ry;have T2:=ht.at I2.bO;refine⟨Bj T2,Zor T2 (d:=ds.map λz=>(⟨z.toArray⟩:aj)) (by rw[Kg,et];rfl) λv rv=>?_⟩;obtain⟨b,rfl,sq⟩:=rv;exact⟨.ref b,H2,I2.tok _,rfl,q b (sq _)⟩
theorem Zrf(hm:X.mg x=Ya (.ref a))(ht:wD X.K a t)(he:C3 X e g)(hs:zY e:=by exactλ_ _=>rfl)(hg:Gl X x:=by rfl)(hd:(x==("__debug__":aj))=false:=by decide):
  C3 X (.Subscript (.Name x npos) e pos) (e1 (uD t) g):=(ZpC hm ht he hs hg hd).imp λσ H Q ak=>by
 obtain⟨ι,M,env,S,E,h⟩:=ak;obtain⟨d,M1,e1,h⟩:=Zw.bind h;refine⟨ι,M,env,S,E,?_⟩;rw[e1];intro y H1 ι1 x1 S1 r1;cases d with
 |str k=>
  cases r1.str_inv
  simp only[uD]at h;cases et:tabAt k t with
  |none=>rw[et]at h;exact h.elim|some ds=>rw[et]at h;exact⟨k,ds,rfl,et,λb sq=>h _ H1 ι1 x1 S1 (Rep.tup sq (RG ds))⟩
 |_=>exact h.elim
end
open AutoSeq1 (wpAny_loadPart')
set_option maxRecDepth 100000
theorem Zjd{prog:Y3}{w:aO}{A:bB}{it:Yq}{fp:List Yq}{n:Nat}{P:Nat->Yd->Prop}{St:Nat->aq->Prop}(D:Draws prog w A it fp n P St):
  Draws prog w A it fp (n+1) (λi v=>P (i-1) v) (λi h=>∃j,i=j+1/\St j h)where
 live:=λi h ⟨j,_,st⟩=>D.live j h st
 frame:=λi h h' ⟨j,e,st⟩ hk=>⟨j,e,D.frame j h h' st hk⟩
 item:=λi s Q E hi st hQ=>by obtain⟨j,rfl,st⟩:=st;exact D.item j s Q E (Nat.lt_of_succ_lt_succ hi) st λx h' tk hp st' hs=>hQ x h' tk hp ⟨j+1,rfl,st'⟩ hs
 done:=λs Q E st hE=>by obtain⟨j,e,st⟩:=st;cases O9 e;exact D.done s Q E st hE
theorem Zj3(l:Yq)(items:Array Yd)(n:Nat)(dct:Option Yq)(sl:Array (Option Yd))(t:fj):
  Meets (Builtin.«enumerate.__new__» ⟨[.type "enumerate",.ref l],[("start",.int 1 t)]⟩) (λ_ R s=>s.heap.get? l=Ya {cls:=.type "list",dict:=dct,data:=.seq items n,slots:=sl}/\
   R (.ok (.ret (.ref (s.heap.push {cls:=.type "list_iterator",data:=.fields #[.ref l,.int 0 0]}).objs.size)))
    {s with heap:=(s.heap.push {cls:=.type "list_iterator",data:=.fields #[.ref l,.int 0 0]}).push {cls:=.type "enumerate",data:=.fields #[.none,.bool false,.ref s.heap.objs.size,jP 1,.none,.none]}}):=
 .of_wp λprog w A R s h=>by
  obtain⟨hp,g,d,tk,os⟩:=s;obtain⟨hl,h⟩:=h;have hsub:=sub_enumerate;have hL:Heap.IsList (O_ ⟨hp,g,d,tk,os⟩) l items:=⟨_,hl,rfl,n,rfl⟩
  wp_walk using G5 hl
  refine wpAny_stack_any λst=>Yr ?_;split
  .rename_i c _ _ _ _ _;cases(c==Value.type "enumerate")
   .wp_walk using G5 hl,w5 hL
    exact⟨_,rfl,h⟩
   .wp_walk using G5 hl,w5 hL
    exact⟨_,rfl,h⟩
  .wp_walk using G5 hl,w5 hL
   exact⟨_,rfl,h⟩
theorem Zkq(a b:Yd):checkTypeCall "enumerate" ⟨[a],[("start",b)]⟩=pure ():=by kernel_rfl
theorem Zmt(a b:Yd):CP "enumerate.__new__" ⟨[.type "enumerate",a],[("start",b)]⟩=pure ():=by kernel_rfl
theorem Zk4(o a b:Yd):argsOk "object.__init__" ⟨[o,a],[("start",b)]⟩:=by unfold argsOk;rw[signature?_of (id:="object.__init__") (n:=['_','_','t','i','n','i','_','_']) (o:=['t','c','e','j','b','o']) (by kernel_rfl) F.owner_object];kernel_rfl
theorem ZjO{self a b:Yd}:Meets (Builtin.«object.__init__» ⟨[self,a],[("start",b)]⟩) (λ_ R s=>s.TypeIs self "enumerate" /\R (.ok (.ret .none)) s):=by
 have hl:=F.called_enumerate.init.lookup;have hm:=F.called_enumerate.made;refine Meets.of_wp λprog w A R s hs=>?_;obtain⟨hT,hq⟩:=hs
 repeat(any_goals(first|assumption|wp_step))
 exact⟨_,rfl,hq⟩
theorem ZkR{prog:Y3}{w:aO}{A:bB}{E:Yd->Yf->Prop}{s:Yf}{l:Yq}{items:Array Yd}{t:fj}(hL:s.heap.IsList l items)(h:∀h',IsEnum h' (s.heap.objs.size+1) s.heap.objs.size 1 .none->h'.IsListIter s.heap.objs.size l 0->(∀b o,s.heap.get? b=Ya o->h'.get? b=Ya o)->Q (.ref (s.heap.objs.size+1)) {s with heap:=h'}):
  Y8 (ao prog w) A (call (.type "enumerate") [.ref l] [("start",.int 1 t)]) Q E s:=by
 obtain⟨⟨c,dct,dt,sl⟩,hl,hc,n,hd⟩:=hL;replace hc:c= .type "list":=hc;replace hd:dt= .seq items n:=hd;subst hc hd;have ft:=F.called_enumerate;obtain⟨c,tl,hmro⟩:=ft.mro;have hmade:=ft.made;have hsub:=ft.sub;have hct:=Zkq (.ref l) (.int 1 t);have hcn:=Zmt (.ref l) (.int 1 t);refine qZ (Vk (show Y8 _ _ (callAny (.type "enumerate") _) _ _ _ from ?_));refine Yr ⟨I_ _ (by decide +kernel),Vj F.entry_type_call (?_)⟩;rw[Around.under_plain (weight_type_call_type _ _ _) (units_type_call_type _ _ _)];have h1:=ft.notType;have h2:=ft.canCreate
 repeat(any_goals(first|assumption|wp_step))
 have hz:(s.heap.push {cls:=.type "list_iterator",data:=.fields #[.ref l,.int 0 0]}).objs.size=s.heap.objs.size+1:=vC ..;have g0:=Zj3 l items n dct sl t prog w A.in1 (wants (λobj s₁=>s₁.TypeIs obj "enumerate" /\Q obj s₁) E) s ⟨hl,by
  show _/\_;rw[hz];have he:IsEnum ((s.heap.push {cls:=.type "list_iterator",data:=.fields #[.ref l,.int 0 0]}).push {cls:=.type "enumerate",data:=.fields #[.none,.bool false,.ref s.heap.objs.size,jP 1,.none,.none]}) (s.heap.objs.size+1) s.heap.objs.size 1 .none:=by have q:=Yw (s.heap.push {cls:=.type "list_iterator",data:=.fields #[.ref l,.int 0 0]}) (o:={cls:=.type "enumerate",data:=.fields #[.none,.bool false,.ref s.heap.objs.size,jP 1,.none,.none]}) rfl;rw[hz]at q;exact q
  exact⟨⟨_,he,rfl⟩,h _ he ⟨_,Yh _ (Yw _ rfl),rfl,rfl⟩ λb o x=>Yh _ (Yh _ x)⟩⟩
 refine tH (wZ ft.plain F.entry_enumerate_new (wpAny_of_eq hcn g0)) λr s₁ hr=>?_;cases r with
 |error e=>exact hr|ok fl=>
  cases fl with
  | ret obj=>
   obtain⟨hT,hq⟩:=hr;have hli:=ft.init.lookup;have hbi:=ft.init.bind obj
   repeat(any_goals(first|assumption|wp_step))
   refine tH (wZ ft.init.plain F.entry_object_init (ft.init.check _ _ _ _ _ _ _ _ hT (Zk4 obj _ _) (ZjO prog w A.in1 (wants (λr s₂=>r= .none/\Q obj s₂) E) s₁ ⟨hT,rfl,hq⟩))) λr₂ s₂ RJ=>?_;cases r₂ with
   |error e=>exact RJ|ok fl₂=>
    cases fl₂ with
    |ret r=>
     obtain⟨rfl,hq⟩:=RJ
     repeat(any_goals(first|assumption|wp_step))
    |_=>exact RJ.elim
  |_=>exact hr.elim
noncomputable def Zuq(S:Hp->List V->Prop):It:=⟨λi H=>∃xs x,S H xs/\xs[i]?=Ya x,λi H x H'=>∃A a,x= .ref A/\H A=Ye/\H'=upd H A (.tup [.int ((i+1:Nat):Int),a])/\∀xs,S H xs->xs[i]?=Ya a,
 λi H=>∃xs,S H xs/\xs.length<=i⟩
theorem Zkd{P:Y3}{w:aO}{K:Yb}{es:List Expr}{k:Nat}{pos:aY}(a e it:Yq)(hne:e≠it):
  Turn P w K (.Tuple es k pos) (Zuq λH xs=>bQ K H a xs) [e,it] e (λi h=>(∃old,IsEnum h e it ((i+1:Nat):Int) old)/\h.IsListIter it a i)where
 mem:=by simp
 obj:=λi h st b hb=>by
  obtain⟨⟨old,he⟩,o,ho,c,d⟩:=st;simp only[Y1,vz,or_false]at hb;rcases hb with rfl|rfl
  .exact⟨_,he,λv z=>by cases z⟩
  .exact⟨o,ho,λv z=>by rw[d]at z;cases z⟩
 keep:=λi h h' st k=>by obtain⟨⟨old,he⟩,hit⟩:=st;exact⟨⟨old,k e (by simp) _ he⟩,hit.at λo q=>k it (by simp) o q⟩
 item:=by
  intro X hP hw hK hc i pins s σ H E I hf st hg;subst hP hw hK;obtain⟨xs,x,hq,hx⟩:=hg;obtain⟨its,rv,p,hz⟩:=I.list hq;obtain⟨u,hu,ru⟩:=rv.get hx;obtain⟨⟨old,he⟩,hit⟩:=st;have hel:=Yx he;have hil:it<s.heap.objs.size:=by obtain⟨o,ho,_⟩:=id hit;exact Yx ho
  have hae:e≠a:=by rintro rfl;obtain⟨o,ho,hc,_⟩:=p.isList;rw[he]at ho;cases ho;exact absurd hc (by simp)
  have hai:a≠it:=by rintro rfl;obtain⟨o,ho,hc,_⟩:=p.isList;obtain⟨o',ho',hc',_⟩:=hit;rw[ho']at ho;cases ho;rw[hc']at hc;exact absurd hc (by simp)
  have D:=Zjd (Draws.list (prog:=X.prog) (w:=X.w) (A:=X.A.in1) (I.ok.hd hc) it a hai its.toArray);refine wpAny_pyNext_enum_itemD (i:=i+1) D he ⟨i,rfl,hit,p.isList⟩ (by simpa using(Yn.mp hu).1) hne (by simp[hne,hae]) λy h' tk hy ho hst hT hsz hk=>?_;have ey:y=u:=by
   have q:its.toArray[i]?=Ya u:=by simpa using hu
   have hy':its.toArray[i]?=Ya y:=hy;rw[q]at hy';cases hy';rfl
  subst ey;refine⟨_,rfl,wpAny_letOwnedTupleGo_enum (s:={s with heap:=h',toks:=tk+1}) ho λh'' AdF hs''=>?_⟩;obtain⟨I2,n2⟩:=Zmk (i:=i+1) (x:=x) (tk':=tk+1) I hf hel hil ru hT hk hs'';obtain⟨j,ej,hst,_⟩:=hst;cases O9 ej;exact⟨.ref s.heap.objs.size,_,I2,rfl,⟨_,x,rfl,I.hok.fresh (Yt _),rfl,λys hy=>by rw[I.Mm hy hq];exact hx⟩,⟨⟨_,by simpa using AdF⟩,hst.extBut hs''.extBut (cQ hne)⟩,n2⟩
 done:=by
  intro X hP hw hK hc i pins s σ H E I hf st hg;subst hP hw hK;obtain⟨xs,hq,hx⟩:=hg;obtain⟨its,rv,p,hz⟩:=I.list hq;obtain⟨⟨old,he⟩,hit⟩:=st;have hl:=rv.length;have hT:s.TypeIs (.ref e) "enumerate":=⟨_,he,rfl⟩;unfold qi;refine Yc (zf (u6 (name:=jV "__next__") hT WM
   (u_ WM hT F.entry_enumerate_next (show Y8 _ _ (tQ (.ref e) 2>>=λo=>_) _ _ _ from ?_) (F.args_enumerate_next_1 _))))
  refine Yc (h_ he rfl (x:=.ref it) rfl (Yc ?_));refine U7 (I.ok.hd hc) hit p.isList (by simp;exact lC 2 2268279672881 T1 hl hx) λh' x he' hx'=>?_;obtain⟨o,ho,hc⟩:=hx';refine Yc (Vh (T:="StopIteration") (b:=true) ⟨o,ho,hc⟩ isSubtype_stop (Yr ?_));exact⟨rfl,I.Gz (t':=s.toks) (λb o hb q=>he' b o (λz=>hb (by simp[z])) q) hf⟩
 self:=λ_ _ _ _ _ st h=>by obtain⟨⟨old,he⟩,_⟩:=st;exact Vc he h
section
variable {X:Cx} {es:List Expr} {k:Nat} {a:Expr} {p pos tpos kp cp:aY} {f:E3}
def Zp7(K:Yb)(ta:TA):TI:=λσ H R=>ta σ H λvs H1=>∃b,vs=[.ref b]/\∃xs,bQ K H1 b xs/\R (Zuq λH xs=>bQ K H b xs) H1
theorem Zim{M:Model}{A:bB}{E:Yd->Yf->Prop}{s:Yf}{env:cH}{T:String}{e:Expr}{kws:List Keyword}(h:Y8 M A (Hs (bN pos (Yp [e] env))) (λvs s₁=>Y8 M A (evalAll ((jO pos (jN kws env)).map (·.2)))
   (λkvs s₂=>Y8 M A (call (.type T) vs (((jO pos (jN kws env)).filterMap (·.1)).zip kvs)) Q E s₂) E s₁) E s)(he:bN pos (Yp [e] env)=[(false,aF e env)])(hall:(jO pos (jN kws env)).all (·.1.isSome)=true)(hkw:(jO pos (jN kws env)).any (·.1.isNone)=false):
  Y8 M A (Df pos (.type T) [] (bN pos (Yp [e] env)) (jO pos (jN kws env))) Q E s:=by
 rw[he]at h ⊢;unfold Df;refine Yc (jb (eO (PyProof.Rows.evalArgs_kwB (Q:=λa s₁=>Y8 M A (call (.type T) a.pos a.kw) Q E s₁) hall h) (λa s₁ h₁=>Yc (vf ?_)) λ_ _ x=>x));simp only[hkw,qm,List.any_nil,Wd];refine Yc (Yr (Yc ?_));exact eO h₁ (λr s₂ hr=>Yc (jb (C_ (Yr hr)))) λ_ _ x=>x
theorem ZnG{ta:TA}{j}(hg:Gl X "enumerate")(hm:X.mg "enumerate" =Ye)(ha:PA X [a] ta)(he:bN pos (Yp [a] X.env)=[(false,aF a X.env)]):
  PI X (.Tuple es k tpos) (.Call (.Name "enumerate" p) [a] [⟨Ya "start",.Constant (.int 1) j cp,kp⟩] pos) (Zp7 X.K ta):=by
 intro pins s σ H R I h;refine CK (zT I hg hm boot_enumerate (Zim (aP (ha pos pins s σ H _ I h) λus s1 ak=>?_) he rfl rfl));obtain⟨vs,H1,I1,r1,q1⟩:=ak;refine aP ((Zp5 (nm:=Ya "start") (kpos:=kp) (X8 (j:=j) (pos:=cp) (i:=1)) Zso) pos pins s1 σ H1 (λzs H'=>zs=[.int 1]/\H'=H1) I1 ⟨rfl,rfl⟩) λws s2 Fo=>?_;obtain⟨zs,H2,I2,rz,rfl,rfl⟩:=Fo;obtain⟨b,e,xs,hq,q⟩:=q1;subst e;cases r1 with
 | cons r rr=>
  cases rr
  cases r
  cases rz with
  | cons r' rr=>
   cases rr
   obtain⟨t,rfl⟩:=r';have fp:∀c∈[s2.heap.objs.size+1,s2.heap.objs.size],jf X pins H2 c:=λc hc=>by
    have hc':s2.heap.objs.size<=c:=by simp only[Y1,vz,or_false]at hc;rcases hc with rfl|rfl <;>omega
    exact I2.wU hc' (I2.hok.fresh hc')
   obtain⟨its,rv,pl,hz⟩:=I2.list hq;refine ZkR (t:=t) pl.isList λh' hE hI hk=>?_;have I3:Inv X pins σ H2 {s2 with heap:=h'}:=I2.kept (t':=s2.toks) hk;exact Vc (s:={s2 with heap:=h'}) hE ⟨_,[s2.heap.objs.size+1,s2.heap.objs.size],_,_,H2,rfl,I3,Zkd b _ _ (Nat.succ_ne_self _),⟨⟨_,hE⟩,hI⟩,fp,q⟩
theorem Znc{j}(hm:X.mg "enumerate" =Ye)(h:C3 X a f)(hg:Gl X "enumerate":=by rfl)(he:bN pos (Yp [a] X.env)=[(false,aF a X.env)]:=by rfl)(hs':Yp (a::[]) X.env=(false,aF a X.env)::Yp [] X.env:=by rfl):
  CIL X (.Tuple es k tpos) (.Call (.Name "enumerate" p) [a] [⟨Ya "start",.Constant (.int 1) j cp,kp⟩] pos) (Ao f):=
 PI.imp (ZnG hg hm (Zc h Zj hs') he) λσ H R ak=>by
  obtain⟨ι,M,env,S,E,h⟩:=ak;obtain⟨d,M1,e1,h⟩:=yt.bind h;refine⟨ι,M,env,S,E,?_⟩;have e2:Za f Zf env M= .ok [d] M1:=by unfold Za;rw[e1];rfl
  rw[e2];intro vs H1 ι1 x1 S1 r1;obtain⟨v,ws,rfl,r,q⟩:=r1.cons_inv;have:=q.nil_inv;subst this;cases d with
  | ref n=>
   cases hm:M1[n]? with
   |none=>simp only[hm]at h;exact h.elim|some o=>
    cases o with
    | lst ds=>
     simp only[hm]at h;obtain⟨b,ha,rfl⟩:=r.d_;obtain⟨vs,q,r⟩:=S1.obj n _ b hm ha;refine⟨b,rfl,vs,bQ.of q,h _ H1 ι1 x1 S1 ?_⟩;intro i H2 ι2 M2 x S2 lk;have wg:M2[n]?=Ya (.lst ds):=by simpa[gm]using lk
     obtain⟨vs2,q2,r2⟩:=S2.obj n _ b wg (x.pre _ _ ha);refine⟨λd hd=>?_,λhl=>⟨vs2,bQ.of q2,by rw[r2.length,hl,QH];exact Yt _⟩⟩;rw[QG,Ib 1 i]at hd;cases hq:ds[i]? with
     |none=>rw[hq]at hd;cases hd|some d0=>rw[hq]at hd;cases hd;obtain⟨v,hv,rv⟩:=r2.get hq;refine⟨⟨vs2,v,bQ.of q2,hv⟩,λy H3 hy=>?_⟩;obtain⟨T,y',rfl,hT,rfl,hall⟩:=hy;have e:=hall vs2 (bQ.of q2);rw[hv]at e;cases e;exact S2.wV hT (Zt.cons Rep.int (Zt.cons rv Zt.nil))
    |_=>simp only[hm]at h;exact h.elim
  |_=>exact h.elim
end
end L3
namespace L3
open PySem PySem.Spec PyProof.Rows L2
set_option maxRecDepth 100000
def fU(b:Bool)(h:aq)(l:Yq)(its:Array Yd):Prop:=match b with
 |true=>h.IsList l its|false=>h.IsTuple l its
def dF(b:Bool)(h:aq)(it l:Yq)(i:Nat):Prop:=match b with
 |true=>h.IsListIter it l i|false=>h.IsTupleIter it l i
def iC(b:Bool)(K:Yb)(H:Hp)(l:Yq)(xs:List V):Prop:=match b with
 |true=>bQ K H l xs|false=>cJ K H l xs
noncomputable def Fp:Bool->String
 |true=>"list_iterator"|false=>"tuple_iterator"
variable{b:Bool}{its:Array Yd}{h:aq}{l:Yq}
theorem fU.keep{h':aq}(k:∀o,h.get? l=Ya o->h'.get? l=Ya o)(x:fU b h l its):fU b h' l its:=by
 cases b with
 |true=>exact Heap.IsList.at x k|false=>exact Heap.IsTuple.at x k
variable{i:Nat}{it:Yq}
theorem dF.keep{h':aq}(k:∀o,h.get? it=Ya o->h'.get? it=Ya o)(x:dF b h it l i):dF b h' it l i:=by
 cases b with
 |true=>exact Heap.IsListIter.at x k|false=>exact Heap.IsTupleIter.at x k
theorem dF.there(x:dF b h it l i):∃o,h.get? it=Ya o/\∀v,o.data≠ .cell v:=by
 cases b with
 |true=>obtain⟨o,ho,_,d⟩:=x;exact⟨o,ho,λv z=>by rw[d]at z;cases z⟩|false=>obtain⟨o,ho,_,d⟩:=x;exact⟨o,ho,λv z=>by rw[d]at z;cases z⟩
theorem fU.there(x:fU b h l its):l<h.objs.size:=by
 cases b with
 |true=>obtain⟨o,ho,_⟩:=x;exact Yx ho|false=>obtain⟨o,ho,_⟩:=x;exact Yx ho
theorem iC.at{X:Cx}{pins:List (Yq×aB)}{σ:St}{H:Hp}{s:Yf}{xs:List V}(I:Inv X pins σ H s)(x:iC b X.K H l xs):∃its:List Yd,Vals xs its/\fU b s.heap l its.toArray:=by
 cases b with
 |true=>obtain⟨its,r,p,_⟩:=I.list x;exact⟨its,r,p.isList⟩|false=>obtain⟨its,r,p,_⟩:=I.tuple x;exact⟨its,r,p⟩
theorem iC.inj{X:Cx}{pins:List (Yq×aB)}{σ:St}{H:Hp}{s:Yf}{xs ys:List V}(I:Inv X pins σ H s)(x:iC b X.K H l xs)(y:iC b X.K H l ys):xs=ys:=by
 cases b with
 |true=>exact I.Mm x y|false=>exact I.Mg x y
variable{xs ys:Array Yd}{b1 b2:Bool}{k1 k2:Nat}{Q:Yd->Yf->Prop}
section
variable {prog:Y3} {w:aO} {A:bB} {E:Yd->Yf->Prop} {s:Yf}
theorem nextK{x:Yd}(hi:dF b s.heap it l i)(ho:fU b s.heap l its)(hx:its[i]?=Ya x)(hQ:∀h',dF b h' it l (i+1)->zB it s.heap h'->Q x {s with heap:=h'}):Y8 (ao prog w) A (rm (.ref it)) Q E s:=by
 cases b with
 |true=>exact wpAny_nextOf_list_item hi ho hx hQ|false=>exact Zfy hi ho hx hQ
theorem ZhJ(hh:A.handled=Ye)(hi:dF b s.heap it l i)(ho:fU b s.heap l its)(hx:its[i]?=Ye)(hE:∀h' e,Heap.ExtBut it s.heap h'->(∃o,h'.get? e=Ya o/\o.cls= .type "StopIteration")->E (.ref e) {s with heap:=h'}):Y8 (ao prog w) A (rm (.ref it)) Q E s:=by
 cases b with
 |true=>exact U7 hh hi ho hx hE|false=>exact Zgc hh hi ho hx hE
theorem ZqZ(ho:fU b s.heap l its)(h:Q (.ref s.heap.objs.size) {s with heap:=s.heap.push {cls:=.type (Fp b),data:=.fields #[.ref l,.int 0 0]}}):
  Y8 (ao prog w) A (zq (.ref l)) Q E s:=by
 cases b with
 |true=>exact w5 ho h|false=>exact Va ho h
theorem dF.new(e:h.get? it=Ya {cls:=.type (Fp b),data:=.fields #[.ref l,.int 0 0]}):dF b h it l 0:=by
 cases b with
 |true=>exact⟨_,e,rfl,rfl⟩|false=>exact⟨_,e,rfl,rfl⟩
theorem ZmW{z TI TO i1 i2 l1 l2:Yq}{x y a b:Yd}(D:ZipApart z TI TO i1 i2 l1 l2)(hz:jQ s.heap z TI TO .none)(hTI:gj s.heap TI (.ref i1) (.ref i2))(hTO:gj s.heap TO a b)(h1:dF b1 s.heap i1 l1 k1)(h2:dF b2 s.heap i2 l2 k2)(hl1:fU b1 s.heap l1 xs)(hl2:fU b2 s.heap l2 ys)(hx:xs[k1]?=Ya x)(hy:ys[k2]?=Ya y)(hQ:∀h',jQ h' z TI TO (jP s.heap.objs.size)->gj h' TO x y->dF b1 h' i1 l1 (k1+1)->dF b2 h' i2 l2 (k2+1)->gj h' s.heap.objs.size x y ->
   (∀c o,c≠z->c≠TO->c≠i1->c≠i2->s.heap.get? c=Ya o->h'.get? c=Ya o)->Q (.ref s.heap.objs.size) {s with heap:=h'}):
  Y8 (ao prog w) A (Builtin.«zip.__next__» ⟨[.ref z],[]⟩) (λfin s'=>∃v,fin= .done (.ret v)/\Q v s') E s:=by
 show Y8 _ _ (tQ (.ref z) 2>>=λo=>_) _ _ _;refine Yc (h_ hz rfl (x:=.bool false) rfl (show Y8 _ _ (tQ (.ref z) 3>>=λo=>_) _ _ _ from ?_));refine Yc (h_ hz rfl (x:=.ref TI) rfl (Yc (vd hTI rfl ?_)));refine(show Y8 _ _ (Ii (.ref z)>>=λo=>_) _ _ _ from Yc ?_);unfold Ii;refine Yc (h_ hz rfl (x:=.none) rfl (Yr ?_));simp only[if_true];refine Yc (Hl (Yc (h_ hz rfl (x:=.ref TO) rfl ?_)));refine Yc (y_ hz (by simp) λg1 hz1 hs1=>Yc ?_);replace hz1:jQ g1 z TI TO .ellipsis:=hz1;simp only[VN,V1,Nz,V3];refine Yc (Yc (CZ (show Y8 _ _ (rm (.ref i1)>>=λo=>_) _ _ _ from ?_)));refine Yc (nextK (h1.keep λo q=>hs1.extBut _ o D.i1z q) (hl1.keep λo q=>hs1.extBut _ o D.l1z q) hx λg2 h12 hs2=>Yr ?_);have Cz:gj g2 TO a b:=hs2.extBut _ _ D.TOi1 (hs1.extBut _ _ D.TOz hTO);refine Yc (vd Cz rfl (Yc (MK Cz λg3 GK hs3=>?_)));replace GK:gj g3 TO x b:=GK;refine Yc (Nf (Yr (Yc (Yc (CZ (show Y8 _ _ (rm (.ref i2)>>=λo=>_) _ _ _ from ?_))))));refine Yc (nextK (h2.keep λo q=>hs3.extBut _ o D.TOi2.symm (hs2.extBut _ o D.i12.symm (hs1.extBut _ o D.i2z q))) (hl2.keep λo q=>hs3.extBut _ o D.l2TO (hs2.extBut _ o D.l2i1 (hs1.extBut _ o D.l2z q))) hy λg4 h24 wF=>Yr ?_);have Uo:gj g4 TO x b:=wF.extBut _ _ D.TOi2 GK;refine Yc (vd Uo rfl (Yc (MK Uo λg5 GP wG=>?_)));replace GP:gj g5 TO x y:=GP;refine Yc (Nf (Yr (Yr (Yc (vd GP rfl (Yc (wpAny_newTuple ?_)))))));have hsz:g5.objs.size=s.heap.objs.size:=by rw[wG.1,wF.1,hs3.1,hs2.1,hs1.1]
 have hz5:jQ g5 z TI TO .ellipsis:=wG.extBut _ _ D.TOz.symm (wF.extBut _ _ D.i2z.symm (hs3.extBut _ _ D.TOz.symm (hs2.extBut _ _ D.i1z.symm hz1)));have hk5:∀c o,c≠z->c≠TO->c≠i1->c≠i2->s.heap.get? c=Ya o->g5.get? c=Ya o:=λc o c1 c2 c3 c4 e=>wG.extBut _ _ c2 (wF.extBut _ _ c4 (hs3.extBut _ _ c2 (hs2.extBut _ _ c3 (hs1.extBut _ _ c1 e))));have h15:dF b1 g5 i1 l1 (k1+1):=h12.keep λo q=>wG.extBut _ o D.TOi1.symm (wF.extBut _ o D.i12 (hs3.extBut _ o D.TOi1.symm q));have h25:dF b2 g5 i2 l2 (k2+1):=h24.keep λo q=>wG.extBut _ o D.TOi2.symm q;have hzlt:z<g5.objs.size:=Yx hz5;refine(show Y8 _ _ (Wh (.ref z) (.ref g5.objs.size)>>=λo=>_) _ _ _ from Yc ?_);unfold Wh;have hz6:jQ (g5.push {cls:=.type "tuple",data:=.seq #[x,y]}) z TI TO .ellipsis:=Yh _ hz5;refine Yc (y_ hz6 (by simp) λg7 RK hs7=>?_);replace RK:jQ g7 z TI TO (jP g5.objs.size):=RK;refine y_ RK (by simp) λg8 hz8 hs8=>?_;replace hz8:jQ g8 z TI TO (jP g5.objs.size):=hz8;have up:∀c o,c≠z->g5.get? c=Ya o->g8.get? c=Ya o:=λc o c1 e=>hs8.extBut _ _ c1 (hs7.extBut _ _ c1 (Yh _ e));have hT8:gj g8 g5.objs.size x y:=hs8.extBut _ _ (Dr hzlt) (hs7.extBut _ _ (Dr hzlt) (Yw _ rfl));rw[hsz]at hz8 hT8;refine Yr ⟨_,rfl,(show Q (.ref g5.objs.size) _ from ?_)⟩;rw[hsz];exact hQ g8 hz8 (up _ _ D.TOz GP) (h15.keep λo e=>up _ o D.i1z e) (h25.keep λo e=>up _ o D.i2z e) hT8 λc o c1 c2 c3 c4 e=>up c o c1 (hk5 c o c1 c2 c3 c4 e)
theorem ZoK{z TI TO i1 i2 l1 l2:Yq}{a b:Yd}{Q:Fin->Yf->Prop}(hh:A.handled=Ye)(D:ZipApart z TI TO i1 i2 l1 l2)(hz:jQ s.heap z TI TO .none)(hTI:gj s.heap TI (.ref i1) (.ref i2))(hTO:gj s.heap TO a b)(h1:dF b1 s.heap i1 l1 k1)(h2:dF b2 s.heap i2 l2 k2)(hl1:fU b1 s.heap l1 xs)(hl2:fU b2 s.heap l2 ys)(hend:xs[k1]?=Ye\/ys[k2]?=Ye)(hE:∀h' e,(∀c o,c≠z->c≠TO->c≠i1->c≠i2->s.heap.get? c=Ya o->h'.get? c=Ya o)->(∃o,h'.get? e=Ya o/\o.cls= .type "StopIteration")->E (.ref e) {s with heap:=h'}):
  Y8 (ao prog w) A (Builtin.«zip.__next__» ⟨[.ref z],[]⟩) Q E s:=by
 show Y8 _ _ (tQ (.ref z) 2>>=λo=>_) _ _ _;refine Yc (h_ hz rfl (x:=.bool false) rfl (show Y8 _ _ (tQ (.ref z) 3>>=λo=>_) _ _ _ from ?_));refine Yc (h_ hz rfl (x:=.ref TI) rfl (Yc (vd hTI rfl ?_)));refine(show Y8 _ _ (Ii (.ref z)>>=λo=>_) _ _ _ from Yc ?_);unfold Ii;refine Yc (h_ hz rfl (x:=.none) rfl (Yr ?_));simp only[if_true];refine Yc (Hl (Yc (h_ hz rfl (x:=.ref TO) rfl ?_)));refine Yc (y_ hz (by simp) λg1 hz1 hs1=>Yc ?_);replace hz1:jQ g1 z TI TO .ellipsis:=hz1;simp only[VN,V1,Nz,V3];refine Yc (Yc (CZ (show Y8 _ _ (rm (.ref i1)>>=λo=>_) _ _ _ from ?_)));have h11:dF b1 g1 i1 l1 k1:=h1.keep λo q=>hs1.extBut _ o D.i1z q;have Uq:fU b1 g1 l1 xs:=hl1.keep λo q=>hs1.extBut _ o D.l1z q;cases hx:xs[k1]? with
 |none=>
  refine Yc (ZhJ hh h11 Uq hx λg2 e hs2 he=>?_);obtain⟨oe,hoe,hce⟩:=he;have hz2:jQ g2 z TI TO .ellipsis:=hs2 _ _ D.i1z.symm hz1;have hez:e≠z:=λq=>by subst q;rw[hz2]at hoe;cases hoe;simp at hce
  exact y_ hz2 (by simp) λg3 _ hs3=>hE g3 e (λc o c1 _ c3 _ q=>hs3.extBut _ _ c1 (hs2 _ _ c3 (hs1.extBut _ _ c1 q))) ⟨oe,hs3.extBut _ _ hez hoe,hce⟩
 |some x=>
  have hy:ys[k2]?=Ye:=by rcases hend with q|q;rw[hx]at q;cases q;exact q
  refine Yc (nextK h11 Uq hx λg2 h12 hs2=>Yr ?_);have Cz:gj g2 TO a b:=hs2.extBut _ _ D.TOi1 (hs1.extBut _ _ D.TOz hTO);refine Yc (vd Cz rfl (Yc (MK Cz λg3 GK hs3=>?_)));refine Yc (Nf (Yr (Yc (Yc (CZ (show Y8 _ _ (rm (.ref i2)>>=λo=>_) _ _ _ from ?_))))));refine Yc (ZhJ hh (h2.keep λo q=>hs3.extBut _ o D.TOi2.symm (hs2.extBut _ o D.i12.symm (hs1.extBut _ o D.i2z q))) (hl2.keep λo q=>hs3.extBut _ o D.l2TO (hs2.extBut _ o D.l2i1 (hs1.extBut _ o D.l2z q))) hy λg4 e wF he=>?_);obtain⟨oe,hoe,hce⟩:=he;have hz4:jQ g4 z TI TO .ellipsis:=wF _ _ D.i2z.symm (hs3.extBut _ _ D.TOz.symm (hs2.extBut _ _ D.i1z.symm hz1));have hez:e≠z:=λq=>by subst q;rw[hz4]at hoe;cases hoe;simp at hce
  exact y_ hz4 (by simp) λg5 _ wG=>hE g5 e (λc o c1 c2 c3 c4 q=>wG.extBut _ _ c1 (wF _ _ c4 (hs3.extBut _ _ c2 (hs2.extBut _ _ c3 (hs1.extBut _ _ c1 q))))) ⟨oe,wG.extBut _ _ hez hoe,hce⟩
theorem Zi4{z TI TO i1 i2 l1 l2:Yq}{x y a b:Yd}{Q:Option Yd->Yf->Prop}(D:ZipApart z TI TO i1 i2 l1 l2)(hz:jQ s.heap z TI TO .none)(hTI:gj s.heap TI (.ref i1) (.ref i2))(hTO:gj s.heap TO a b)(h1:dF b1 s.heap i1 l1 k1)(h2:dF b2 s.heap i2 l2 k2)(hl1:fU b1 s.heap l1 xs)(hl2:fU b2 s.heap l2 ys)(hx:xs[k1]?=Ya x)(hy:ys[k2]?=Ya y)(hQ:∀h',jQ h' z TI TO (jP s.heap.objs.size)->gj h' TO x y->dF b1 h' i1 l1 (k1+1)->dF b2 h' i2 l2 (k2+1)->gj h' s.heap.objs.size x y ->
   (∀c o,c≠z->c≠TO->c≠i1->c≠i2->s.heap.get? c=Ya o->h'.get? c=Ya o)->Q (Ya (.ref s.heap.objs.size)) {s with heap:=h'}):
  Y8 (ao prog w) A (qi (.ref z)) Q E s:=by
 have hT:s.TypeIs (.ref z) "zip":=⟨_,hz,rfl⟩;unfold qi;exact Yc (zf (u6 (name:=jV "__next__") hT IK (u_ IK hT WQ
  (ZmW D hz hTI hTO h1 h2 hl1 hl2 hx hy λh' a1 a2 a3 a4 a5 a6=>Yr (hQ h' a1 a2 a3 a4 a5 a6)) (WN _))))
theorem Zj2{z TI TO i1 i2 l1 l2:Yq}{a b:Yd}{Q:Option Yd->Yf->Prop}(hh:A.handled=Ye)(D:ZipApart z TI TO i1 i2 l1 l2)(hz:jQ s.heap z TI TO .none)(hTI:gj s.heap TI (.ref i1) (.ref i2))(hTO:gj s.heap TO a b)(h1:dF b1 s.heap i1 l1 k1)(h2:dF b2 s.heap i2 l2 k2)(hl1:fU b1 s.heap l1 xs)(hl2:fU b2 s.heap l2 ys)(hend:xs[k1]?=Ye\/ys[k2]?=Ye)(hQ:∀h',(∀c o,c≠z->c≠TO->c≠i1->c≠i2->s.heap.get? c=Ya o->h'.get? c=Ya o)->Q Ye {s with heap:=h'}):Y8 (ao prog w) A (qi (.ref z)) Q E s:=by
 have hT:s.TypeIs (.ref z) "zip":=⟨_,hz,rfl⟩;unfold qi;refine Yc (zf (u6 (name:=jV "__next__") hT IK (u_ IK hT WQ
  (ZoK hh D hz hTI hTO h1 h2 hl1 hl2 hend λh' e hk he=>?_) (WN _))))
 obtain⟨o,ho,hc⟩:=he;exact Yc (Vh (T:="StopIteration") (b:=true) ⟨o,ho,hc⟩ isSubtype_stop (Yr (hQ _ hk)))
end
noncomputable abbrev jA(b:Bool)(h:aq)(l:Yq):aq:=h.push {cls:=.type (Fp b),data:=.fields #[.ref l,.int 0 0]}
noncomputable abbrev Bk(b1 b2:Bool)(h:aq)(l1 l2:Yq):aq:=(jA b2 (jA b1 h l1) l2).push {cls:=.type "tuple",data:=.seq #[.ref h.objs.size,.ref (jA b1 h l1).objs.size]}
noncomputable abbrev Fq(b1 b2:Bool)(h:aq)(l1 l2:Yq):aq:=(Bk b1 b2 h l1 l2).push {cls:=.type "tuple",data:=.seq #[.none,.none]}
noncomputable abbrev sE(b1 b2:Bool)(h:aq)(l1 l2:Yq):aq:=(Fq b1 b2 h l1 l2).push {cls:=.type "zip",data:=.fields #[.none,.bool false,.bool false,.ref (jA b2 (jA b1 h l1) l2).objs.size,.ref (Bk b1 b2 h l1 l2).objs.size]}
theorem ZkM(b1 b2:Bool)(l1 l2:Yq)(xs ys:Array Yd):
  Meets (Builtin.«zip.__new__» ⟨[.type "zip",.ref l1,.ref l2],[]⟩) (λ_ R s=>fU b1 s.heap l1 xs/\fU b2 s.heap l2 ys/\R (.ok (.ret (.ref (Fq b1 b2 s.heap l1 l2).objs.size))) {s with heap:=sE b1 b2 s.heap l1 l2}):=
 .of_wp λprog w A R s h=>by
  obtain⟨hp,g,d,tk,os⟩:=s;obtain⟨hl1,hl2,h⟩:=h;have hsub:=sub_zip;have hL1:fU b1 (O_ ⟨hp,g,d,tk,os⟩) l1 xs:=hl1;have hL2:fU b2 (O_ ⟨jA b1 hp l1,g,d,tk,os⟩) l2 ys:=hl2.keep λo q=>Yh _ q
  wp_walk using ZqZ hL1,ZqZ hL2
  exact⟨_,rfl,h⟩
theorem ZmR{prog:Y3}{w:aO}{A:bB}{E:Yd->Yf->Prop}{s:Yf}{l1 l2:Yq}(hl1:fU b1 s.heap l1 xs)(hl2:fU b2 s.heap l2 ys)(h:∀h',jQ h' (s.heap.objs.size+4) (s.heap.objs.size+2) (s.heap.objs.size+3) .none->gj h' (s.heap.objs.size+2) (.ref s.heap.objs.size) (.ref (s.heap.objs.size+1)) ->
   gj h' (s.heap.objs.size+3) .none .none->dF b1 h' s.heap.objs.size l1 0->dF b2 h' (s.heap.objs.size+1) l2 0->(∀c o,s.heap.get? c=Ya o->h'.get? c=Ya o)->Q (.ref (s.heap.objs.size+4)) {s with heap:=h'}):
  Y8 (ao prog w) A (call (.type "zip") [.ref l1,.ref l2]) Q E s:=by
 refine callType_new F.called_zip (by decide) (F.typeCall_zip_2 _ _) (F.newCall_zip_2 _ _) (λobj=>F.args_object_init_3 obj _ _) F.entry_zip_new (ZkM b1 b2 l1 l2 xs ys) ⟨hl1,hl2,?_⟩;have z1:(jA b1 s.heap l1).objs.size=s.heap.objs.size+1:=vC ..;have z2:(jA b2 (jA b1 s.heap l1) l2).objs.size=s.heap.objs.size+2:=(vC ..).trans (by rw[z1]);have z3:(Bk b1 b2 s.heap l1 l2).objs.size=s.heap.objs.size+3:=(vC ..).trans (by rw[z2]);have z4:(Fq b1 b2 s.heap l1 l2).objs.size=s.heap.objs.size+4:=(vC ..).trans (by rw[z3]);have p5:∀{c o},(Fq b1 b2 s.heap l1 l2).get? c=Ya o->(sE b1 b2 s.heap l1 l2).get? c=Ya o:=λq=>Yh _ q;have p4:∀{c o},(Bk b1 b2 s.heap l1 l2).get? c=Ya o->(sE b1 b2 s.heap l1 l2).get? c=Ya o:=λq=>p5 (Yh _ q);have p3:∀{c o},(jA b2 (jA b1 s.heap l1) l2).get? c=Ya o->(sE b1 b2 s.heap l1 l2).get? c=Ya o:=λq=>p4 (Yh _ q);have p2:∀{c o},(jA b1 s.heap l1).get? c=Ya o->(sE b1 b2 s.heap l1 l2).get? c=Ya o:=λq=>p3 (Yh _ q);have g5:(sE b1 b2 s.heap l1 l2).get? (Fq b1 b2 s.heap l1 l2).objs.size=Ya {cls:=.type "zip",data:=.fields #[.none,.bool false,.bool false,.ref (jA b2 (jA b1 s.heap l1) l2).objs.size,.ref (Bk b1 b2 s.heap l1 l2).objs.size]}:=Yw _ rfl;have g4:(sE b1 b2 s.heap l1 l2).get? (Bk b1 b2 s.heap l1 l2).objs.size=Ya {cls:=.type "tuple",data:=.seq #[.none,.none]}:=p5 (Yw _ rfl);have g3:(sE b1 b2 s.heap l1 l2).get? (jA b2 (jA b1 s.heap l1) l2).objs.size=Ya {cls:=.type "tuple",data:=.seq #[.ref s.heap.objs.size,.ref (jA b1 s.heap l1).objs.size]}:=p4 (Yw _ rfl);have g2:(sE b1 b2 s.heap l1 l2).get? (jA b1 s.heap l1).objs.size=Ya {cls:=.type (Fp b2),data:=.fields #[.ref l2,.int 0 0]}:=p3 (Yw _ (by cases b2<;>rfl));have g1:(sE b1 b2 s.heap l1 l2).get? s.heap.objs.size=Ya {cls:=.type (Fp b1),data:=.fields #[.ref l1,.int 0 0]}:=p2 (Yw _ (by cases b1<;>rfl));rw[z4,z2,z3]at g5;rw[z2,z1]at g3;rw[z3]at g4;rw[z1]at g2;show _/\_;rw[z4];exact⟨⟨_,g5,rfl⟩,h _ g5 g3 g4 (dF.new g1) (dF.new g2) λc o q=>p2 (Yh _ q)⟩
def ZrV(b1 b2:Bool)(z TI TO i1 i2 l1 l2:Yq)(i:Nat)(h:aq):Prop:=jQ h z TI TO .none/\gj h TI (.ref i1) (.ref i2)/\(∃a b,gj h TO a b)/\dF b1 h i1 l1 i/\dF b2 h i2 l2 i
theorem ZmO{P:Y3}{w:aO}{K:Yb}{es:List Expr}{k:Nat}{pos:aY}(b1 b2:Bool)(l1 l2 z TI TO i1 i2:Yq)(Z:ZipApart z TI TO i1 i2 l1 l2):
  Turn P w K (.Tuple es k pos) (Itz (λH xs=>iC b1 K H l1 xs) (λH ys=>iC b2 K H l2 ys)) [z,TI,TO,i1,i2] z (ZrV b1 b2 z TI TO i1 i2 l1 l2)where
 mem:=by simp
 obj:=λi h st b hb=>by
  obtain⟨hz,h1,⟨a,c,h2⟩,g1,g2⟩:=st;simp only[Y1,vz,or_false]at hb;rcases hb with rfl|rfl|rfl|rfl|rfl
  .exact⟨_,hz,λv z=>by cases z⟩
  .exact⟨_,h1,λv z=>by cases z⟩
  .exact⟨_,h2,λv z=>by cases z⟩
  .exact g1.there
  .exact g2.there
 keep:=λi h h' st k=>by obtain⟨hz,h1,⟨a,c,h2⟩,g1,g2⟩:=st;exact⟨k z (by simp) _ hz,k TI (by simp) _ h1,⟨a,c,k TO (by simp) _ h2⟩,g1.keep λo q=>k i1 (by simp) o q,g2.keep λo q=>k i2 (by simp) o q⟩
 item:=by
  intro X hP hw hK hc i pins s σ H E I hf st hg;subst hP hw hK;obtain⟨xs,ys,x,y,hx,hy,gx,gy⟩:=hg;obtain⟨its,rv,p⟩:=iC.at I hx;obtain⟨its2,Bl,p2⟩:=iC.at I hy;obtain⟨u,hu,ru⟩:=rv.get gx;obtain⟨v,hv,rv'⟩:=Bl.get gy;obtain⟨hz,h1,⟨a,c,h2⟩,g1,g2⟩:=st;have hlt:∀b∈[z,TI,TO,i1,i2],b<s.heap.objs.size:=λb hb=>by
   obtain⟨o1,q1,_⟩:=g1.there;obtain⟨o2,q2,_⟩:=g2.there;simp only[Y1,vz,or_false]at hb;rcases hb with rfl|rfl|rfl|rfl|rfl
   .exact Yx hz
   .exact Yx h1
   .exact Yx h2
   .exact Yx q1
   .exact Yx q2
  refine Zi4 Z hz h1 h2 g1 g2 p p2 (x:=u) (y:=v) (by simpa using hu) (by simpa using hv) λh' hz' hTO hi1 hi2 hT hk=>?_;refine⟨_,rfl,wpAny_letOwnedTupleGo_zip (s:={s with heap:=h'}) hz' λh'' hz'' hs''=>?_⟩;have AdG:gj h' TI (.ref i1) (.ref i2):=hk TI _ Z.TIz Z.TITO Z.TIi1 Z.TIi2 h1;obtain⟨I2,n2⟩:=Zna (x:=x) (y:=y) (tk':=s.toks) (fp:=[z,TI,TO,i1,i2]) (h':=h') (h'':=h'') I hf hlt ru rv' hT
   (λb o hb q=>hk b o (λe=>hb (by simp[e])) (λe=>hb (by simp[e])) (λe=>hb (by simp[e])) (λe=>hb (by simp[e])) q)
   (λb o hb q=>(hs''.2 b λe=>hb (by simp[e])).trans q)
  refine⟨.ref s.heap.objs.size,_,I2,rfl,⟨_,x,y,rfl,I.hok.fresh (Yt _),rfl,λzs hq=>by rw[iC.inj I hq hx];exact gx,λzs hq=>by rw[iC.inj I hq hy];exact gy⟩,?_,n2⟩;exact⟨hz'',(hs''.2 _ Z.TIz).trans AdG,⟨_,_,(hs''.2 _ Z.TOz).trans hTO⟩,hi1.keep λo q=>(hs''.2 _ Z.i1z).trans q,hi2.keep λo q=>(hs''.2 _ Z.i2z).trans q⟩
 done:=by
  intro X hP hw hK hc i pins s σ H E I hf st hg;subst hP hw hK;obtain⟨xs,ys,hx,hy,ho⟩:=hg;obtain⟨its,rv,p⟩:=iC.at I hx;obtain⟨its2,Bl,p2⟩:=iC.at I hy;have hl1:=rv.length;have hl2:=Bl.length;obtain⟨hz,h1,⟨a,c,h2⟩,g1,g2⟩:=st;refine Zj2 (I.ok.hd hc) Z hz h1 h2 g1 g2 p p2 ?_ λh' hk=>⟨rfl,I.Gz (t':=s.toks) (λb o hb q=>hk b o (λe=>hb (by simp[e])) (λe=>hb (by simp[e])) (λe=>hb (by simp[e])) (λe=>hb (by simp[e])) q) hf⟩;rcases ho with ho|ho
  .left;simp;exact lC 2 1237490667521 T1 ho hl1
  .right;simp;exact lC 2 1237490667521 T1 ho hl2
 self:=λ_ _ _ _ _ st h=>Vi st.1 h
section
variable {X:Cx} {es:List Expr} {k:Nat} {a b:Expr} {p pos tpos:aY} {f g:E3}
def ZsD(K:Yb)(ta:TA):TI:=λσ H R=>ta σ H λvs H1=>∃b1 b2 l1 l2,vs=[.ref l1,.ref l2]/\(∃xs,iC b1 K H1 l1 xs)/\(∃ys,iC b2 K H1 l2 ys)/\R (Itz (λH xs=>iC b1 K H l1 xs) (λH ys=>iC b2 K H l2 ys)) H1
theorem Zp1{ta:TA}(hg:Gl X "zip")(hm:X.mg "zip" =Ye)(ha:PA X [a,b] ta)(hs:Yp [a,b] X.env=[(false,aF a X.env),(false,aF b X.env)]:=by rfl)(hs2:Yp [b] X.env=[(false,aF b X.env)]:=by rfl):PI X (.Tuple es k tpos) (.Call (.Name "zip" p) [a,b] [] pos) (ZsD X.K ta):=by
 intro pins s σ H R I h;refine Call_ (zT I hg hm ZmP (Og (aP (ha pos pins s σ H _ I h) λus s1 ⟨vs,H1,I1,r1,q1⟩=>?_) (by rw[hs,hs2]) (by rw[hs2];rfl)));obtain⟨b1,b2,l1,l2,e,⟨xs,hx⟩,⟨ys,hy⟩,q⟩:=q1;subst e;cases r1 with
 | cons r rr=>
  cases rr with
  | cons r' rr=>
   cases rr
   cases r
   cases r'
   obtain⟨its,rv,p1⟩:=iC.at I1 hx;obtain⟨its2,Bl,p2⟩:=iC.at I1 hy;refine ZmR p1 p2 λh' hZ hTI hTO hi1 hi2 hk=>?_;have I2:Inv X pins σ H1 {s1 with heap:=h'}:=I1.kept (t':=s1.toks) hk;have fp:∀c∈[s1.heap.objs.size+4,s1.heap.objs.size+2,s1.heap.objs.size+3,s1.heap.objs.size,s1.heap.objs.size+1],jf X pins H1 c:=λc hc=>by
    have hc':s1.heap.objs.size<=c:=by simp only[Y1,vz,or_false]at hc;rcases hc with rfl|rfl|rfl|rfl|rfl <;>omega
    exact I1.wU hc' (I1.hok.fresh hc')
   exact Vi (s:={s1 with heap:=h'}) hZ ⟨_,_,_,_,H1,rfl,I2,ZmO b1 b2 l1 l2 _ _ _ _ _ (zipApart_new p1.there p2.there),⟨hZ,hTI,⟨_,_,hTO⟩,hi1,hi2⟩,fp,q⟩
theorem Zjm{K:Yb}{H:Hp}{ι:List Yq}{M:Store}{d:D}{v:V}{x:List D}{l:List (Nat×List D)}(S:aA K H ι M)(r:Rep K H ι d v)(e:uE M d=Ya (x,l)):
  ∃b a,v= .ref a/\(∃vs,iC b K H a vs)/\∀H2 ι2 M2,Ext K H ι H2 ι2->aA K H2 ι2 M2->gm l M2=true->∃vs,iC b K H2 a vs/\Zt K H2 ι2 x vs:=by
 cases d with
 |tup ds=>obtain⟨a,vs,rfl,s,r⟩:=r.jr;cases e;exact⟨false,a,rfl,⟨vs,s⟩,λH2 ι2 M2 x S2 _=>⟨vs,x.tup _ _ s,r.mono x⟩⟩|ref n=>
  unfold uE at e;cases hm:M[n]? with
  |none=>simp only[hm]at e;cases e|some o=>
   cases o with
   |lst ds=>
    simp only[hm]at e;obtain⟨rfl,rfl⟩:ds=x/\[(n,ds)]=l:=by simpa using e
    obtain⟨a,ha,rfl⟩:=r.d_;obtain⟨vs,q,_⟩:=S.obj n _ a hm ha;refine⟨true,a,rfl,⟨vs,bQ.of q⟩,λH2 ι2 M2 x S2 lk=>?_⟩;have wg:M2[n]?=Ya (.lst ds):=by simpa[gm]using lk
    obtain⟨vs2,q2,r2⟩:=S2.obj n _ a wg (x.pre _ _ ha);exact⟨vs2,bQ.of q2,r2⟩
   |_=>simp only[hm]at e;cases e
 |_=>cases e
theorem Zk9(hm:X.mg "zip" =Ye)(h1:C3 X a f)(h2:C3 X b g)(hg:Gl X "zip":=by rfl)(hs:Yp [a,b] X.env=[(false,aF a X.env),(false,aF b X.env)]:=by rfl)(hs2:Yp [b] X.env=[(false,aF b X.env)]:=by rfl)(hs':Yp (a::[b]) X.env=(false,aF a X.env)::Yp [b] X.env:=by rfl)(hs'':Yp (b::[]) X.env=(false,aF b X.env)::Yp [] X.env:=by rfl):CIL X (.Tuple es k tpos) (.Call (.Name "zip" p) [a,b] [] pos) (pN f g):=
 PI.imp (Zp1 hg hm (Zc h1 (Zc h2 Zj hs'') hs') hs hs2) λσ H R ak=>by
  obtain⟨ι,M,env,S,E,h⟩:=ak;obtain⟨d,M1,e1,h⟩:=yt.bind h;obtain⟨d2,M2,e2,h⟩:=yt.bind h;refine⟨ι,M,env,S,E,?_⟩;have e3:Za f (Za g Zf) env M= .ok [d,d2] M2:=by simp only[Za,Zf,R3.bind,e1,e2]
  rw[e3];intro vs H1 ι1 x1 S1 r1;obtain⟨v,ws,rfl,r,q⟩:=r1.cons_inv;obtain⟨v2,Kh,rfl,r2,q2⟩:=q.cons_inv;have:=q2.nil_inv;subst this;cases q1:uE M2 d with
  |none=>simp only[q1]at h;exact h.elim|some xl=>
   cases q2:uE M2 d2 with
   |none=>simp only[q1,q2]at h;exact h.elim|some yk=>
    obtain⟨x,l⟩:=xl;obtain⟨y,k⟩:=yk;simp only[q1,q2]at h;obtain⟨b1,a1,rfl,w1,f1⟩:=Zjm S1 r q1;obtain⟨b2,a2,rfl,w2,f2⟩:=Zjm S1 r2 q2;refine⟨b1,b2,a1,a2,rfl,w1,w2,h _ H1 ι1 x1 S1 ?_⟩;intro i H2 ι2 M3 xx S2 lk;have wg:gm l M3=true/\gm k M3=true:=by simpa[gm]using lk
    obtain⟨RL,p1,q1⟩:=f1 H2 ι2 M3 xx S2 wg.1;obtain⟨Kh,p2,q2⟩:=f2 H2 ι2 M3 xx S2 wg.2;refine⟨λd hd=>?_,λhl=>⟨RL,Kh,p1,p2,by rw[q1.length,q2.length,hl,QL];omega⟩⟩;rw[QK]at hd;cases hq:x[i]? with
    |none=>rw[hq]at hd;cases hd|some a0=>
     cases hq2:y[i]? with
     |none=>rw[hq,hq2]at hd;cases hd|some b0=>rw[hq,hq2]at hd;cases hd;obtain⟨v1,hv1,rv1⟩:=q1.get hq;obtain⟨v2,hv2,Bl⟩:=q2.get hq2;refine⟨⟨RL,Kh,v1,v2,p1,p2,hv1,hv2⟩,λy H3 hy=>?_⟩;obtain⟨T,y1,y2,rfl,hT,rfl,ha1,ha2⟩:=hy;have e:=ha1 RL p1;rw[hv1]at e;cases e;have e:=ha2 Kh p2;rw[hv2]at e;cases e;exact S2.wV hT (Zt.cons rv1 (Zt.cons Bl Zt.nil))
end
noncomputable section
end
noncomputable section
end
noncomputable section
end
noncomputable section
end
end L3
namespace PySem.W
open PySem PySem.Spec PySem.Calls PyProof.Rows Builtin Builtin.ObjectAttr
section
variable {prog:Y3} {w:aO} {K:Frag} {x D:Yq} {name:aj} {v:Yd}
theorem ZuI{A:bB}{R:tM->Yf->Prop}{s:Yf}{tk:fj}(hb:mroIn K D (.type "BaseException")=Ya true)(X:K.In s.heap)(p:oV x D s.heap)(L3:Looks (ao prog w) s.heap (find (.ref x) (.ref D) name) (.value v))(hq:R (.ok (.ret v)) s):oY (ao prog w) A (.call (.builtin "BaseException.__getattribute__") ⟨[.ref x,.str name tk],[]⟩) R s:=by
 obtain⟨hh,gg,dd,tt,oo⟩:=s;have L0:=p.ty (ao prog w);have L1:=looks_mroIn (M:=ao prog w) X hb;have hk:builtinKind "BaseException.__getattribute__" =Ya .slot:=by decide +kernel
 have hs:splitId "BaseException.__getattribute__" =Ya ("BaseException","__getattribute__"):=by decide +kernel
 have hz:=WX (.ref x) (.str name tk);refine wZ F.excAttr_ValueError.ga.plain WW ?_;simp only[CP,hk,hs];refine Yc ?_;unfold Dc
 repeat lk
 exact hq
theorem Adb{A:bB}{E:Yd->Yf->Prop}{s:Yf}{Q:Yd->Yf->Prop}{b:Bool}(hg:findIn K (.ref D) "__getattribute__" =Ya (Ya (.builtin "BaseException.__getattribute__")))(hg2:findIn K (.ref D) "__getattr__" =Ya Ye)(hb:mroIn K D (.type "BaseException")=Ya true)(X:K.In s.heap)(p:oV x D s.heap)(L:Looks (ao prog w) s.heap (find (.ref x) (.ref D) name) (.value v))(hv:handedIn v=true)(hq:Q v {s with toks:=s.toks+1}):Y8 (ao prog w) A (getAttr (.ref x) name b) Q E s:=by obtain⟨hh,gg,dd,tt,oo⟩:=s;have L0:=p.ty (ao prog w);have L1:=looks_findIn (M:=ao prog w) X hg;have L2:=looks_findIn (M:=ao prog w) X hg2;have f3:=F.excAttr_ValueError.ga.bind (.ref x);unfold getAttr getAttrBy;refine Yc (M_ (jb (Yc (L0.at (Yc (L1.at ?_))))));show Y8 _ _ (G_ _ _ _ _ _ _) _ _ _;unfold G_ hookBefore Vg;refine Yc (L2.at (Yc (zf (jb ?_))));rw[show(b&&onTheHeap (.builtin "BaseException.__getattribute__"))=false from by cases b<;>rfl,if_neg (by decide)];show Y8 _ _ (Hg _ _ _) _ _ _;unfold Hg;rw[f3];refine Yc (Yr ?_);refine qZ (ZuI hb X p L ?_);exact handed_on hv hq
theorem AcY{M:Model}{h:aq}{o:aB}{vs:Array Yd}{dx:Yq}{m:aj->Option Yd}{cd:ClassData}(X:K.In h)(hx:h.get? x=Ya o)(hc:o.cls= .ref D)(hd:o.data= .fields vs)(hdx:o.dict=Ya dx)(hn:h.Ns1 dx m)(hm:m name=Ya v)(cl:clsIn K D=Ya cd)(hh:cd.hasDict=true)(hf:findIn K (.ref D) name=Ya Ye):Looks M h (find (.ref x) (.ref D) name) (.value v):=by
 refine(looks_findIn (M:=M) X hf).andThen ((show Looks M h (getOf Ye) Ye from .now).andThen ((show Looks M h (dataDescriptor? Ye Ye) Ye from .now).andThen ?_));have L:=looks_clsIn (M:=M) X cl;have own:Looks M h (inOwnDict name (.ref x)) (Ya v):=by intro A Q E s k q;obtain⟨o2,es,ep,e1,e2,e3,e4,e5⟩:=hn;refine Yc (Yc (MT (k _ _ hx) ?_));rw[hd];unfold instanceDict;refine Yc (MT (k _ _ hx) ?_);rw[hc];refine Yc (L A _ E s k ?_);rw[hh,hdx];refine Yr (a:=Ya dx) ?_;refine wpAny_nsGet ⟨o2,es,ep,k _ _ e1,e2,e3,λ_=>rfl⟩ ?_;rw[e5 name,hm];exact q
 exact own.andThen (Looks.tag .now)
end
end PySem.W
namespace PySem.W
open PySem PySem.Spec PySem.Calls PyProof.Rows Builtin Builtin.ObjectAttr
section
variable {prog:Y3} {w:aO} {K:Frag} {x D CL:Yq} {name:aj} {v:Yd} {cd:ClassData}
noncomputable abbrev qR:List Yd:=[.type "ValueError",.type "Exception",.type "BaseException",.type "object"]
theorem Zr9{M:Model}{A:bB}{E:Yd->Yf->Prop}{Q:Unit->Yf->Prop}{s:Yf}{a b:Yd}(X:K.In s.heap)(p:oV x D s.heap)(ho:mroIn K D (.type "object")=Ya true)(hq:Q () s):
  Y8 M A (CP "object.__setattr__" ⟨[.ref x,a,b],[]⟩) Q E s:=by
 obtain⟨h,g,d,t,os⟩:=s;have L0:=p.ty M;have L3:=looks_mroIn (M:=M) X ho;have hz:=F.store_ValueError.args (.ref x) a b;simp only[CP,F.store_ValueError.kind,F.store_ValueError.split];refine Yc ?_;unfold Dc
 repeat lk
 exact hq
theorem Zu2{A:bB}{R:tM->Yf->Prop}{s:Yf}{tk:fj}{o:aB}{vs:Array Yd}(X:K.In s.heap)(hx:s.heap.get? x=Ya o)(hc:o.cls= .ref D)(hd:o.data= .fields vs)(hdn:o.dict=Ye)(cl:clsIn K D=Ya cd)(hh:cd.hasDict=true)(hm:cd.mro= .ref D:: .ref CL::qR)(hf:findIn K (.ref D) name=Ya Ye)(ho:mroIn K D (.type "object")=Ya true)(hq:∀h' tk',h'.get? x=Ya {o with dict:=Ya s.heap.objs.size}->h'.Ns1 s.heap.objs.size (λy=>if y=name then Ya v else Ye)->(∀b ob,b≠x->s.heap.get? b=Ya ob->h'.get? b=Ya ob)->R (.ok (.ret .none)) {s with heap:=h',toks:=tk'}):
  oY (ao prog w) A (.call (.builtin "object.__setattr__") ⟨[.ref x,.str name tk,v],[]⟩) R s:=by
 have p:oV x D s.heap:=⟨o,hx,hc⟩;refine wZ F.store_ValueError.slot.plain F.store_ValueError.entry (Zr9 X p ho ?_);obtain⟨h,g,d,t,os⟩:=s;have L0:=p.ty (ao prog w);have L2:=looks_findIn (M:=ao prog w) X hf;have L5:=looks_clsIn (M:=ao prog w) X cl;have L4:Looks (ao prog w) h (mroOf (.ref D)) cd.mro:=L5.andThen .now;have pass:refuseLoop (.ref x) "__setattr__" cd.mro=pure ():=by rw[hm,refuseLoop_ref,refuseLoop_ref];exact F.store_ValueError.passes _
 unfold Builtin.«object.__setattr__»;refine Yc ?_;rw[refuse_eq];refine Yc (L0.at (Yc (L4.at ?_)));rw[pass];refine Yr (Yc (Yr (Yc (L0.at (Yc (L2.at (Yc (Yr ?_))))))));show Y8 _ _ (storeInOwnDict _ _ _ _ _ _) _ _ _;unfold storeInOwnDict ownDictForStores instanceDict
 repeat(first|(with_reducible refine zb hx ?_;rw[hc])|with_reducible refine Looks.at (by assumption) ?_|wp_step)
 rw[hdn,hd];have hx1:(h.push {cls:=.type "dict",data:=.dict #[]}).get? x=Ya o:=Yh _ hx;have hxs:x≠h.objs.size:=eQ (Yx hx);refine Yc (wpAny_alloc' (Yc (wpAny_update' hx1 (Yr ?_))));have g1:((h.push {cls:=.type "dict",data:=.dict #[]}).update x λo=>{cls:=o.cls,dict:=Ya h.objs.size,data:=o.data,slots:=o.slots}).get? h.objs.size=Ya {cls:=.type "dict",data:=.dict #[]}:=(V6 _ _ _ _ hxs.symm).trans (NQ rfl rfl);have fr:=(Heap.get?_some_iff.mp hx).2;have g2:((h.push {cls:=.type "dict",data:=.dict #[]}).update x λo=>{cls:=o.cls,dict:=Ya h.objs.size,data:=o.data,slots:=o.slots}).get? x=Ya {o with dict:=Ya h.objs.size}:=by refine zA _ hx1 ?_;obtain⟨oc,od,oa,osl⟩:=o;cases oa<;>first|rfl|exact fr
 show Y8 _ _ (storeInDict h.objs.size (.str name tk) name v) _ _ _;unfold storeInDict newKeyGuard;refine Yc (Yr (Yc (wpAny_nsSet1 (Xl ⟨_,#[],_,g1,rfl,λe he=>absurd he (by simp),λ_=>rfl⟩) λh' hn' hs=>?_)));obtain⟨oD,esD,epD,hoD,hdD,hcD⟩:=hn'.count (Within.cons name v Within.nil);refine Yc (wpAny_lookBehind hoD (by rw[hdD];exact pastItsLine_dict (Ym hcD (by rw[Yo,ju,mK];omega))) ?_)
 wp_walk
 exact hq h' _ ((hs.2 x hxs).trans g2) hn' λb ob hb q=>(hs.2 b (eQ (Yx q))).trans ((V6 _ _ _ _ hb).trans (Yh _ q))
theorem Ub{A:bB}{E:Yd->Yf->Prop}{s:Yf}{Q:Unit->Yf->Prop}{o:aB}{vs:Array Yd}(X:K.In s.heap)(hx:s.heap.get? x=Ya o)(hc:o.cls= .ref D)(hd:o.data= .fields vs)(hdn:o.dict=Ye)(cl:clsIn K D=Ya cd)(hh:cd.hasDict=true)(hm:cd.mro= .ref D:: .ref CL::qR)(hsa:findIn K (.ref D) "__setattr__" =Ya (Ya (.builtin "object.__setattr__")))(hf:findIn K (.ref D) name=Ya Ye)(ho:mroIn K D (.type "object")=Ya true)(hq:∀h' tk',h'.get? x=Ya {o with dict:=Ya s.heap.objs.size}->h'.Ns1 s.heap.objs.size (λy=>if y=name then Ya v else Ye)->(∀b ob,b≠x->s.heap.get? b=Ya ob->h'.get? b=Ya ob)->Q () {s with heap:=h',toks:=tk'}):
  Y8 (ao prog w) A (setAttr (.ref x) name v) Q E s:=by
 obtain⟨h,g,d,t,os⟩:=s;have p:oV x D h:=⟨o,hx,hc⟩;have L0:=p.ty (ao prog w);have L1:=looks_findIn (M:=ao prog w) X hsa;have f3:=F.store_ValueError.slot.bind (.ref x);unfold setAttr callSpecial? specialOf;refine Yc (M_ (Yc (Yc (Yc (L0.at (L1.at ?_))))));refine jb (Yc ?_);rw[f3];refine Yr (Yc (qZ (Zu2 X hx hc hd hdn cl hh hm hf ho λh' tk' a b c=>?_)));exact Yr (Yr (hq h' tk' a b c))
end
end PySem.W
namespace PySem.W
open PySem PySem.Spec PySem.Calls PyProof.Rows
section
variable {prog:Y3} {w:aO} {A:bB} {E:Yd->Yf->Prop} {h:aq} {g:Array GenState} {d:Drawn} {t:Nat} {os:OsState}
variable {nm q:aj} {C N:Yq} {bs bm:List Yd} {hdct:Bool} {sn:List aj} {sub:List Yd} {ab:Bool} {col:Option Bool} {dd:Option Yq} {k0 k1 k2 k3 k5:Option Yd}
theorem ZuW(T:OwnTail h qR bm){mN:aj->Option Yd}{rest:List Yd}{fI:Yq}{oI:aB}{Q:Fin->Yf->Prop}(hC:h.get? C=Ya (qd nm q C N bs bm hdct sn sub ab col dd k0 k1 k2 k3 k5 "ValueError.__new__"))(hn:h.Ns N mN)(hi:mN "__init__" =Ya (.ref fI))(hfI:h.get? fI=Ya oI)(hfc:oI.cls= .type "function")(hrest:rest.length<=bj)(hq:∀h' e,Heap.MadeExcOf h h' e (.ref C) rest->Y8 (ao prog w) A (call (.ref fI) (.ref e::rest)) (λr s'=>r= .none/\Q (.done (.ret (.ref e))) s') E ⟨h',g,d,t,os⟩):
  Y8 (ao prog w) A (Builtin.«type.__call__» ⟨.ref C::rest,[]⟩) Q E ⟨h,g,d,t,os⟩:=by
 have Fb:=Iw;have hB:qR.contains (.type "ValueError")=true:=by decide
 repeat(first
  |with_reducible refine zb hC ?_
  |with_reducible refine wpAny_madeBy_exc hC ?_
  |wp_step)
 refine codeAny_call_builtin_code (I_ _ Fb.quiet) (wpAny_check_new_subU Fb hB T hC (codeAny_exc_new_subU Fb hB Fb T hC ?_ hrest));show Y8 _ _ _ _ _ _;generalize ht:({cls:=.type "tuple",data:=.seq rest.toArray}:aB)=tup;generalize he:({cls:=.ref C,data:=.fields #[.ref h.objs.size,.none,.none,.none,.bool false,.none]}:aB)=ex;have up:∀b o,h.get? b=Ya o->((h.push tup).push ex).get? b=Ya o:=λb o z=>Yh _ (Yh _ z);have C1:=up _ _ hC;have ge:((h.push tup).push ex).get? (h.objs.size+1)=Ya ex:=by refine NQ (by rw[vC]) ?_;rw[←he];rfl
 have ec:ex.cls= .ref C:=by rw[←he]
 have cC:(Value.ref C::bm).contains (.ref C)=true:=by simp
 unfold Dc
 repeat(first
  |(with_reducible refine zb ge ?_;rw[ec])
  |(with_reducible refine U_ C1 ?_;rw[cC])
  |wp_step)
 show Y8 _ _ (Ni (.ref C) _) _ _ _;refine wpAny_typeLookup_tail C1 (hn.keeps up) (T.keeps up) Fb.mroIs Fb.init.lookup ?_;rw[hi];refine jb (Yc ?_);unfold bindSpecial;refine Yc (Hi (T:="function") ⟨_,up _ _ hfI,hfc⟩ ?_);rw[if_pos (by decide)];refine Yr (Yc (eO (hq _ (h.objs.size+1) ⟨up,Dn (N7 _),h.objs.size,?_,Dn (Yt _),?_⟩) (λr s' z=>?_) λ_ _ z=>z))
 .rw[ge,←he]
 .rw[ht];exact Yh _ (NQ rfl (by rw[←ht];rfl))
 .obtain⟨rfl,z⟩:=z
  wp_walk
  exact z
theorem T6(T:OwnTail h qR bm){mN:aj->Option Yd}{rest:List Yd}{fI:Yq}{oI:aB}{Q:Yd->Yf->Prop}(hC:h.get? C=Ya (qd nm q C N bs bm hdct sn sub ab col dd k0 k1 k2 k3 k5 "ValueError.__new__"))(hn:h.Ns N mN)(hi:mN "__init__" =Ya (.ref fI))(hfI:h.get? fI=Ya oI)(hfc:oI.cls= .type "function")(hrest:rest.length<=bj)(hq:∀h' e,Heap.MadeExcOf h h' e (.ref C) rest->Y8 (ao prog w) (A.under (.builtin "type.__call__" ⟨.ref C::rest,[]⟩)) (call (.ref fI) (.ref e::rest)) (λr s'=>r= .none/\Q (.ref e) s') E ⟨h',g,d,t,os⟩):
  Y8 (ao prog w) A (call (.ref C) rest) Q E ⟨h,g,d,t,os⟩:=by
 have f1:=tc_lookup;have f2:=tc_bind (.ref C);have hT:(⟨h,g,d,t,os⟩:Yf).TypeIs (.ref C) "type":=⟨_,hC,rfl⟩;refine qZ (Vk ?_);show Y8 _ _ (callAny (.ref C) _) _ _ _
 repeat(any_goals(first
  |assumption
  |with_reducible refine zb hC ?_
  |wp_step))
 exact⟨rfl,codeAny_call_builtin_at (I_ _ (by decide +kernel)) entry_typeCall (wpAny_check_type_call_sub hC (ZuW T hC hn hi hfI hfc hrest hq))⟩
theorem AcN{M:Model}{s:Yf}{env:cH}{x:nG Yd}{Q:Flow->Yf->Prop}(hbase:bm.contains (.type "BaseException")=true)(hh:A.handled=Ye)(hx:Y8 M A x (λv s₁=>∃e dx vs sl,v= .ref e/\s₁.heap.get? C=Ya (qd nm q C N bs bm hdct sn sub ab col dd k0 k1 k2 k3 k5 "ValueError.__new__")/\
   s₁.heap.get? e=Ya {cls:=.ref C,dict:=dx,data:=.fields vs,slots:=sl}/\vs[1]?=Ya .none/\E (.ref e) s₁) E s):Y8 M A (raiseStmt env (Ya x) Ye) Q E s:=by
 have cB:(Value.ref C::bm).contains (.type "BaseException")=true:=by rw[VD,hbase,Bool.or_true]
 unfold raiseStmt;refine Yc (eO hx (λv s₁ z=>?_) λ_ _ z=>z);obtain⟨e,dx,vs,sl,rfl,hC,he,h1,hE⟩:=z;obtain⟨hp,g,d,tk,os⟩:=s₁
 repeat(first
  |with_reducible refine zb he ?_
  |with_reducible refine zb hC ?_
  |(with_reducible refine U_ hC ?_;rw[cB])
  |with_reducible refine h_ he rfl h1 ?_
  |wp_step)
 exact wpAny_raiseNew_none hh hE
end
end PySem.W
namespace PySem.W
open PySem PySem.Spec PySem.Calls PyProof.Rows
section
variable {prog:Y3} {w:aO} {A:bB} {E:Yd->Yf->Prop} {h:aq} {g:Array GenState} {d:Drawn} {t:Nat} {os:OsState}
variable {nm q:aj} {C N:Yq} {bs bm:List Yd} {hdct:Bool} {sn:List aj} {sub:List Yd} {ab:Bool} {col:Option Bool} {dd:Option Yq} {k0 k1 k2 k3 k5:Option Yd}
theorem AcZ(T:OwnTail h qR bm)(hC:h.get? C=Ya (qd nm q C N bs bm hdct sn sub ab col dd k0 k1 k2 k3 k5 "ValueError.__new__")){e:Yq}{dx:Option Yq}{vs:Array Yd}{sl:Array (Option Yd)}{a:Yd}{R:tM->Yf->Prop}(he:h.get? e=Ya {cls:=.ref C,dict:=dx,data:=.fields vs,slots:=sl})(hs:1<vs.size){tv:Yq}(h0:vs[0]?=Ya (.ref tv))(hq:∀h' t0,h'.get? e=Ya {cls:=.ref C,dict:=dx,data:=.fields (vs.setIfInBounds 0 (.ref t0)),slots:=sl}->(∀b o,b≠e->h.get? b=Ya o->h'.get? b=Ya o)->R (.ok (.ret .none)) ⟨h',g,d,t,os⟩):
  oY (ao prog w) A (.call (.builtin "ValueError.__init__") ⟨[.ref e,a],[]⟩) R ⟨h,g,d,t,os⟩:=by
 have Fb:=Iw;refine wZ Fb.init.plain Fb.initEntry (wpAny_check_init_subU Fb T hC he rfl ?_)
 wp_walk
 rw[h0]
 wp_walk
 rw[if_pos (tX V_ hs)]
 wp_walk
 have g2:=zA (xN (·.setIfInBounds 0 (Value.ref h.objs.size))) (Yh {cls:=.type "tuple",data:=.seq [a].toArray} he) rfl;exact hq _ h.objs.size g2 λb o hb z=>(xK _ _ (cQ hb)).trans (Yh _ z)
theorem Ac0{K:Frag}{CL:Yq}{pl:nG Bool}{Q:Yd×List Yd->Yf->Prop}{s:Yf}(X:K.In s.heap)(hg:specialIn K (.ref CL) "__getattribute__" =Ya (Ya (.builtin "type.__getattribute__")))(hr:readsIn K CL (.type "type")=true)(hf:findCls K (.ref CL) (.type "type") "__init__" =Ya (.val (.builtin "ValueError.__init__")))(hq:Q (.builtin "ValueError.__init__",[]) {s with toks:=s.toks+1}):Y8 (ao prog w) A (getMethod (.ref CL) "__init__" pl) Q E s:=method_cls X hg (cls_value X hr hf (by decide +kernel) hq)
end
end PySem.W
namespace L3
open PySem PySem.Spec PyProof.Rows L2
def Bm(e C:Yq)(dd:Option Yq)(h:aq):Prop:=∃vs sl tv,h.get? e=Ya {cls:=.ref C,dict:=dd,data:=.fields vs,slots:=sl}/\1<vs.size/\vs[0]?=Ya (.ref tv)/\vs[1]?=Ya .none
noncomputable abbrev bU(e C:Yq)(dd:Option Yq):HO:=.ext (Bm e C dd)
theorem Kl{P:Y3}{w:aO}{H:Hp}{h:aq}{e C:Yq}{dd:Option Yq}(x:Bm e C dd h):bZ P w H h e (bU e C dd):=⟨x,(let⟨_,_,_,q,_⟩:=x;⟨_,q⟩),λ_ _ z k=>let⟨vs,sl,tv,a,b⟩:=z;⟨vs,sl,tv,k _ a,b⟩⟩
section
variable {X:Cx} {pins:List (Yq×aB)} {σ:St} {H:Hp} {s:Yf} {e:Yq} {φ φ':aq->Prop} {h':aq} {t':Nat}
theorem Km(I:Inv X pins σ H s){b:Yq}(q:s.heap.get? b=Ye):H b=Ye:=by
 cases z:H b with
 |none=>rfl|some u=>obtain⟨o,ho⟩:=Ej (I.hok b u z);rw[q]at ho;cases ho
theorem Zlx(I:Inv X pins σ H s)(he:H e=Ya (.ext φ))(keep:∀b u,b≠e->s.heap.get? b=Ya u->h'.get? b=Ya u)(ok:∀H',bZ X.prog X.w H' h' e (.ext φ')):Inv X pins σ (upd H e (.ext φ')) {s with heap:=h',toks:=t'}:=by
 have nb:∀{b u},H b=Ya u->(∀ψ,u≠ .ext ψ)->b≠e:=λ{b u} q n z=>by rw[z,he]at q;cases q;exact n _ rfl
 have n0:∀{b},H b=Ye->b≠e:=λ{b} q z=>by rw[z,he]at q;cases q
 refine I.un ⟨λb u q n _ _=>keep b u (n0 n) q,λb u q n _ _=>⟨u.slots,keep b u (n0 n) q⟩,λb u q n _=>by rw[Zr (n0 n)];exact n,λb u q _=>?_,λb xs q=>by rw[Zr (nb q (λ_ z=>nomatch z))];exact q,
  λb u xs q=>by rw[Zr (nb q (λ_ z=>nomatch z))];exact q,λb ps q=>⟨#[],by rw[Zr (nb q (λ_ z=>nomatch z)),q];simp⟩⟩ λb u q=>?_
 .by_cases hb:b=e
  .rw[hb];exact(ok H).2.1
  .exact⟨u,keep b u hb q⟩
 .by_cases hb:b=e
  .subst hb;rw[dz]at q;cases q;exact ok _
  .rw[Zr hb]at q;refine(I.hok b u q).stay (λc v hc z=>keep c v ?_ z) (λc z=>by rw[Zr (nb z (λ_ z=>nomatch z))];exact z) λc xs z=>by rw[Zr (nb z (λ_ z=>nomatch z))];exact z
   rcases hc with rfl|hc
   .exact hb
   .exact nb hc (λ_ z=>nomatch z)
theorem ZjC{dx:Yq}{o2:HO}(I:Inv X pins σ H s)(he:H e=Ya (.ext φ))(hdx:s.heap.get? dx=Ye)(keep:∀b u,b≠e->s.heap.get? b=Ya u->h'.get? b=Ya u)(ok:∀H',bZ X.prog X.w H' h' e (.ext φ'))(ok2:∀H',bZ X.prog X.w H' h' dx o2):
  Inv X pins σ (upd (upd H e (.ext φ')) dx o2) {s with heap:=h',toks:=t'}:=by
 have hd0:=Km I hdx;have nb:∀{b u},H b=Ya u->(∀ψ,u≠ .ext ψ)->b≠e:=λ{b u} q n z=>by rw[z,he]at q;cases q;exact n _ rfl
 have n0:∀{b},H b=Ye->b≠e:=λ{b} q z=>by rw[z,he]at q;cases q
 have nd:∀{b u},H b=Ya u->b≠dx:=λ{b u} q z=>by rw[z,hd0]at q;cases q
 have nh:∀{b u},s.heap.get? b=Ya u->b≠dx:=λ{b u} q z=>by rw[z,hdx]at q;cases q
 refine I.un ⟨λb u q n _ _=>keep b u (n0 n) q,λb u q n _ _=>⟨u.slots,keep b u (n0 n) q⟩,λb u q n _=>by rw[Zr (nh q),Zr (n0 n)];exact n,λb u q _=>?_,λb xs q=>by rw[Zr (nd q),Zr (nb q (λ_ z=>nomatch z))];exact q,
  λb u xs q=>by rw[Zr (nd q),Zr (nb q (λ_ z=>nomatch z))];exact q,λb ps q=>⟨#[],by rw[Zr (nd q),Zr (nb q (λ_ z=>nomatch z)),q];simp⟩⟩ λb u q=>?_
 .by_cases hb:b=e
  .rw[hb];exact(ok H).2.1
  .exact⟨u,keep b u hb q⟩
 .by_cases hd:b=dx
  .subst hd;rw[dz]at q;cases q;exact ok2 _
  .rw[Zr hd]at q;by_cases hb:b=e
   .subst hb;rw[dz]at q;cases q;exact ok _
   .rw[Zr hb]at q;refine(I.hok b u q).stay (λc v hc z=>keep c v ?_ z) (λc z=>by rw[Zr (nd z),Zr (nb z (λ_ z=>nomatch z))];exact z) λc xs z=>by rw[Zr (nd z),Zr (nb z (λ_ z=>nomatch z))];exact z
    rcases hc with rfl|hc
    .exact hb
    .exact nb hc (λ_ z=>nomatch z)
end
structure yw(K:Yb)(C CL fI:Yq)(f:aj):Prop where
 obj:∃(na q:aj) (N:Yq) (bs bm:List Yd) (hdct:Bool) (sn:List aj) (sub:List Yd) (ab:Bool) (col:Option Bool) (dd:Option Yq) (k0 k1 k2 k3 k5:Option Yd),
  K.lookup C=Ya (qd na q C N bs bm hdct sn sub ab col dd k0 k1 k2 k3 k5 "ValueError.__new__")/\(∀h:aq,K.In h->∃mN,h.Ns N mN/\mN "__init__" =Ya (.ref fI))/\∀h:aq,K.In h->OwnTail h PySem.W.qR bm
 cls:∃cd,jM K C=Ya cd/\cd.hasDict=true/\cd.mro= .ref C:: .ref CL::PySem.W.qR
 sa:fM K (.ref C) "__setattr__" =Ya (Ya (.builtin "object.__setattr__"))
 nf:fM K (.ref C) f=Ya Ye
 mo:qb K C (.type "object")=Ya true
 ga:yZ K (.ref CL) "__getattribute__" =Ya (Ya (.builtin "type.__getattribute__"))
 rd:Mx K CL (.type "type")=true
 fc:Mz K (.ref CL) (.type "type") "__init__" =Ya (.val (.builtin "ValueError.__init__"))
section
variable {X:Cx} {a b o value:Expr} {f x:aj} {p1 p2 p3 pos pos' apos:aY} {C CL fI:Yq} {ta tv:TE}
theorem Zrs{H:Hp}{e:Yq}{u:HO}(h:H e=Ya u):upd H e u=H:=by
 funext z;by_cases q:z=e
 .rw[q,dz,h]
 .rw[Zr q]
theorem ZmL(O:yw X.K C CL fI f):cg X (.builtin "ValueError.__init__") (λxs H Q=>∃e y,xs=[.ref e,.str y]/\H e=Ya (bU e C Ye)/\Q .non H):=by intro pins s σ H xs us Q I r z;obtain⟨e,y,rfl,he,hq⟩:=z;obtain⟨u,v,rfl,ru,rv⟩:=vals2 r;cases ru;obtain⟨na,q,N,bs,bm,hdct,sn,sub,ab,col,dd,k0,k1,k2,k3,k5,lk,_,hT⟩:=O.obj;obtain⟨⟨vs,sl,tv,h1,h2,h3,h4⟩,_⟩:=(show bZ X.prog X.w H s.heap e (bU e C Ye)from I.hok e _ he);obtain⟨h,g,d,t,os⟩:=s;refine qZ (PySem.W.AcZ (hT _ I.bO) (I.bO _ _ lk) h1 h2 h3 λh' t0 g1 k1=>?_);have I2:=Zlx (φ':=Bm e C Ye) (t':=t) I he (λb u hb z=>k1 b u hb z) λH'=>Kl ⟨_,sl,t0,g1,by simpa using h2,by simp[tX V_ h2],by rw[Wx (by decide)];exact h4⟩;rw[Zrs he]at I2;exact⟨.non,H,I2,rfl,hq⟩
theorem Zlf(O:yw X.K C CL fI f){es:List Expr}{e:Expr}{t:TA}(hm:X.mg x=Ya (.ref CL))(ha:PA X (e::es) t)(hg:Gl X x:=by rfl)(hdb:(x==("__debug__":aj))=false:=by decide){pl:nG Bool}(he:Yp (e::es) X.env=(false,aF e X.env)::Yp es X.env:=by rfl)(hpl:(bN pos (Yp es X.env)).any (·.1)=false:=by rfl)(ht:aF (.Call (.Attribute (.Name x p1) "__init__" apos) (e::es) [] pos) X.env=(do
   let ov ←aF (.Name x p1) X.env
   zm apos.atName
   let(f,first) ←tK [ov] (getMethod ov "__init__" pl)
   Df pos f first (bN pos (Yp (e::es) X.env)) (jO pos (jN [] X.env))):=by rfl):
  PE X (.Call (.Attribute (.Name x p1) "__init__" apos) (e::es) [] pos) (zW (λxs H Q=>∃e y,xs=[.ref e,.str y]/\H e=Ya (bU e C Ye)/\Q .non H) t):=by
 intro pins s σ H Q I h;refine PySem.W.methodCall_KW (pl:=pl) (vO I hg hm (PySem.W.Ac0 I.bO O.ga O.rd O.fc ?_) hdb) ht;exact Wo (aP (ha pos pins _ σ H _ (I.tok _) h) λus s1 z=>let⟨vs,H1,I1,r1,q1⟩:=z;ZmL O pins s1 σ H1 vs us Q I1 r1 q1) he hpl
theorem Zj5{i:Int}(h:i.natAbs.log2<1000):(jV (rD i)).length<=10000:=by have e:=int_text_length_le (k:=1000) (by decide) h;rw[PySem.ofString_length];omega
theorem Zlj{ca cb:aj}{yx yC}(hv:PE X value tv)(hl:ca.length+cb.length<=100:=by decide +kernel):
  PE X (.JoinedStr [.Constant (.str ca) yx p1,.FormattedValue value (-1) Ye p2,.Constant (.str cb) yC p3] pos) (λσ H Q=>tv σ H λy H1=>∃i,y= .int i/\i.natAbs.log2<1000/\∀z,Q (.str z) H1):=by
 intro pins s σ H Q I h;have z0:(rn++ca).length<=bj:=by rw[oX,mK];have:Str.empty.length=0:=rfl;omega
 refine Vl ?_;show Y8 _ _ (aF (.Constant (.str ca) yx p1) X.env) _ _ s;refine aP (Eh pins s σ H (λv H'=>v= .str ca/\H'=H) I ⟨rfl,rfl⟩) λu s1 z=>?_;obtain⟨v,H1,I1,r1,e1,e2⟩:=z;subst e1 e2;obtain⟨t1,rfl⟩:=r1;refine⟨ca,t1,rfl,z0,?_⟩;show Y8 _ _ (aF (.FormattedValue value (-1) Ye p2) X.env) _ _ s1;refine U5 (aP (hv pins s1 σ _ _ I1 h) λu2 s2 z=>?_);obtain⟨y,H2,I2,r2,i,e1,hi,hq⟩:=z;subst e1;obtain⟨t2,rfl⟩:=r2;have zi:=Zj5 hi;have z1:(rn++ca++jV (rD i)).length<=bj:=by rw[oX,oX,mK];have:Str.empty.length=0:=rfl;omega
 have z2:(rn++ca++jV (rD i)++cb).length<=bj:=by rw[oX,oX,oX,mK];have:Str.empty.length=0:=rfl;omega
 refine U8 (tX hi (by decide)) ⟨_,_,rfl,z1,?_⟩;show Y8 _ _ (aF (.Constant (.str cb) yC p3) X.env) _ _ _;refine aP (Eh pins _ σ H2 (λv H'=>v= .str cb/\H'=H2) (I2.tok _) ⟨rfl,rfl⟩) λu3 s3 z=>?_;obtain⟨v,H3,I3,r3,e1,e2⟩:=z;subst e1 e2;obtain⟨t3,rfl⟩:=r3;exact⟨cb,t3,rfl,z2,z2,⟨.str _,_,I3.tok _,⟨_,rfl⟩,hq _⟩⟩
theorem Zp8(O:yw X.K C CL fI f)(ha:PE X o ta)(hv:PE X value tv)(hs:xj value (Ya (.Attribute o f pos')) pos.line X.env=pure false:=by rfl):
  PS X (.Assign [.Attribute o f pos'] value pos) (λD σ H=>tv σ H λy H1=>ta σ H1 λx H2=>∃e i,x= .ref e/\y= .int i/\H2 e=Ya (bU e C Ye)/\∀dx od,H2 dx=Ye->D.nx σ (upd (upd H2 e (bU e C (Ya dx))) dx (.bJ od (.xd [(f,.int i)])))):=by
 intro pins s σ H D I h;refine U4 (aP (hv pins s σ H _ I h) λu s1 z=>?_) hs;obtain⟨y,H1,I1,ry,q⟩:=z;refine aP (ha pins s1 σ H1 _ I1 q) λov s2 z=>?_;obtain⟨x,H2,I2,rx,e,i,ex,ey,he,q2⟩:=z;subst ex ey;obtain rfl:ov=Value.ref e:=rx;obtain⟨ti,rfl⟩:=ry;obtain⟨cd,c1,c2,c3⟩:=O.cls;obtain⟨⟨vs,sl,tv,h1,h2,h3,h4⟩,_⟩:=(show bZ X.prog X.w H2 s2.heap e (bU e C Ye)from I2.hok e _ he);refine PySem.W.Ub I2.bO h1 rfl rfl rfl c1 c2 c3 O.sa O.nf O.mo λh' tk' g1 g2 k1=>?_;have hdx:s2.heap.get? s2.heap.objs.size=Ye:=Dn (Yt _);obtain⟨od,es,ep,e1,e2,e3,e4,e5⟩:=id g2;refine⟨σ,_,ZjC (φ':=Bm e C (Ya s2.heap.objs.size)) (o2:=.bJ od (.xd [(f,.int i)])) I2 he hdx k1 (λH'=>Kl ⟨vs,sl,tv,g1,h2,h3,h4⟩) (λH'=>⟨e1,_,g2,λn=>?_⟩),q2 _ od (Km I2 hdx)⟩;by_cases hn:n=f
 .rw[hn,if_pos rfl,jc,beq_self_eq_true];exact⟨ti,rfl⟩
 .rw[if_neg hn,jc,beq_eq_false_iff_ne.mpr hn];exact trivial
end
end L3
set_option linter.all false
namespace L3
noncomputable section
noncomputable def yD(c f:List Nat)(g:cN):S3:=λenv M=>match g env M with
 | .ok [.int i] M1=>if i.natAbs.log2<1000 then .exc ⟨c,.ref M1.length⟩ (M1++[.ins (0::c) [(f,.int i)]])else .bad|_=>.bad
noncomputable def qT(c f:List Nat)(d:D)(M:Store):R3 D:=match d with
 | .ref n=>(match M[n]? with
  |some (.ins c' fs)=>if c'=0::c then(match fs with
   |[(g,.int i)]=>if g=f then .ok (.int i) M else .bad|_=>.bad)else .bad
  |_=>.bad)
 |_=>.bad
end
end L3
set_option Elab.async false
set_option linter.all false
set_option maxRecDepth 100000
namespace L3
open PySem PySem.Spec PyProof.Rows L2
noncomputable def Ko(C:Yq)(f:aj):Sp:=λvs H Q _=>∃e i,vs=[.ref e,.int i]/\i.natAbs.log2<1000/\H e=Ya (bU e C Ye)/\∀dx od,H dx=Ye->Q .non (upd (upd H e (bU e C (Ya dx))) dx (.bJ od (.xd [(f,.int i)])))
variable{C:Yq}
section
variable {P:Y3} {w:aO} {K:Yb} {mg:aj->Option Yd} {base:aq}
theorem fnI{k:Nat}{fI:Yq}{f x qual:aj}{st:Yd2}{fd:gM}{N ps:List aj}(F:pF K x qual st fI fd)(S:eU N ps (Zv st))(hl:ps.length=2)(hb:∀(cdv:Yd) (A:bB) (outer:List cH) (s:Yf) (H:Hp) (E:XK),cL k (A.deeper (k_ qual (Zv st) s.heap.objs.size fI cdv))->∃t,jd (nZ (kh P w) P w K mg base N qual (Zv st) fI cdv A outer s H E) (jx st) t/\
   ∀D e i,i.natAbs.log2<1000->H e=Ya (bU e C Ye)->(∀dx od,H dx=Ye->D.nx (L2.start N [.ref e,.int i]) (upd (upd H e (bU e C (Ya dx))) dx (.bJ od (.xd [(f,.int i)]))))->t D (L2.start N [.ref e,.int i]) H):
  fC P w K mg base (kh P w) (k+1) fI fd ps (Ko C f):=by
 obtain⟨oc,od,dV,kV,doc,pm,an,cdv,ct,osl,rfl,lk,hcd⟩:=F.ex;refine Jx lk hcd S (λvs H Q E ⟨e,i,r,_⟩=>by rw[r,hl];rfl) λA outer s H vs Q E hr ak=>?_;obtain⟨e,i,rfl,hi,he,hq⟩:=ak;obtain⟨t,ht,q⟩:=hb cdv A outer s H E hr;exact⟨t,ht,q _ e i hi he hq⟩
end
section
variable {X:Cx} {pins:List (Yq×aB)} {σ:St} {H:Hp} {s s':Yf}
theorem Zow(I:Inv X pins σ H s){h':aq}{e:Yq}{vs:List Yd}(m:Heap.MadeExcOf s.heap h' e (.ref C) vs):H e=Ye/\Inv X pins σ (upd H e (bU e C Ye)) {s with heap:=h'}:=by
 have hn:H e=Ye:=Km I m.new;obtain⟨t,ht,_,_⟩:=m.there;have xo:Bm e C Ye h':=⟨_,_,t,ht,by simp,rfl,rfl⟩;have ne:∀b o,s.heap.get? b=Ya o->b≠e:=λb o q z=>by subst z;rw[m.new]at q;cases q
 have un:Un X.fs [] H (upd H e (bU e C Ye)) s.heap h':=
  ⟨λb u q _ _ _=>m.keeps b u q,
   λb u q _ _ _=>⟨u.slots,m.keeps b u q⟩,
   λb u q n _=>by rw[Zr (ne b u q)];exact n,
   λb u q _=>⟨u,m.keeps b u q⟩,
   λb xs q=>by rw[Zr (lF q hn)];exact q,
   λb u xs q=>by rw[Zr (lF q hn)];exact q,
   λb ps q=>⟨#[],by rw[Zr (lF q hn),q];simp⟩⟩
 have hok:cV X.prog X.w (upd H e (bU e C Ye)) h':=λb u q=>by
  by_cases hb:b=e
  .subst hb;rw[dz]at q;cases q;exact Kl xo
  .rw[Zr hb]at q;exact(I.hok b u q).stay (λc v _ z=>m.keeps c v z) (λc z=>by rw[Zr (lF z hn)];exact z) λc xs z=>by rw[Zr (lF z hn)];exact z
 exact⟨hn,I.un (t':=s.toks) un hok⟩
theorem Zq4{σ':St}{H':Hp}(I:Inv X pins σ H s){e:Yq}{dd:Option Yq}(hnew:s.heap.get? e=Ye)(I':Inv X pins σ' H' s')(he:H' e=Ya (bU e C dd)):
  Inv X pins σ' (upd H' e (lZ e C dd)) s'/\J9 X e C (upd H' e (lZ e C dd)) s':=by
 obtain⟨⟨vs,sl,tv,h1,h2,h3,h4⟩,_⟩:=(show bZ X.prog X.w H' s'.heap e (bU e C dd)from I'.hok e _ he);have xo:v_ e C dd s'.heap:=⟨_,_,h1,rfl,rfl,rfl⟩;have ne:∀b o,s.heap.get? b=Ya o->b≠e:=λb o q z=>by subst z;rw[hnew]at q;cases q
 have old:∀{b o},X.s₀.heap.get? b=Ya o->b∉X.fs->b∉X.ex->b∉e::frs X.stack:=λ{b o} q hb hx z=>by
  rcases Y1.mp z with z|z
  .obtain⟨o1,q1⟩:=I.base.there b o q hx;exact ne b o1 q1 z
  .exact Fi I' q hb z
 refine⟨Zlx (t':=s'.toks) (h':=s'.heap) I' he (λb u _ q=>q) λ_=>Ru xo,dd,dz,GZ s'.heap (e::frs X.stack),⟨.ref tv,.inr ⟨λb o q=>GX _ q,Uz _ (.head _),?_,_,_,h1,rfl,rfl,h3,h4,rfl⟩⟩,⟨λb hb hne=>?_,λb o q n hb hx=>?_,λb o q hb hx=>?_⟩,λp hp=>?_⟩
 .exact Uy I'.stack λenv he a ha=>.tail _ (Hz.mpr ⟨env,he,ha⟩)
 .rw[Zr hne]at hb;obtain⟨u,q⟩:=Us.mp hb;obtain⟨o,ho⟩:=Ej (I'.hok b u q);exact⟨o,tD _ ho λz=>(Y1.mp z).elim hne λz=>hb (I'.Gy b z)⟩
 .exact tD _ (I'.base.keep b o q n hb hx) (old q hb hx)
 .obtain⟨o1,q1⟩:=I'.base.there b o q hx;exact⟨o1,tD _ q1 (old q hb hx)⟩
 .obtain⟨q,n,n2,nf,_⟩:=I'.pin p (xH _ hp);obtain⟨q0,_⟩:=I.pin p (xH _ hp);exact tD _ q λz=>(Y1.mp z).elim (ne _ _ q0) λz=>(Y1.mp (I'.wO p.1 z)).elim n2 nf
end
section
variable {X:Cx}
theorem Zly{H:Hp}{e dx:Yq}{u1 u2 u3 v:HO}(h:dx≠e):upd (upd (upd (upd H e u1) e u2) dx v) e u3=upd (upd H dx v) e u3:=by
 funext z;by_cases q:z=e
 .rw[q,dz,dz]
 .rw[Zr q,Zr q];by_cases q2:z=dx
  .rw[q2,dz,dz]
  .rw[Zr q2,Zr q2,Zr q,Zr q]
theorem ZkI{any:Bool}{c f:List Nat}{CL fI:Yq}{k:Nat}{fd:gM}{ps:List aj}{x:aj}{np cpos pos:aY}{a:Expr}{as:List Expr}{gl:cN}(O:yw X.K C CL fI (nm f))(au:ClsAt X.K c C)(hfn:(X.K.lookup fI).map (·.cls)=Ya (.type "function"))(G:fC X.prog X.w X.K X.mg X.base (kh X.prog X.w) k fI fd ps (Ko C (nm f)))(bi:Binds X.K fd ps [])(hr:cL (k+1) X.A)(hm:X.mg x=Ya (.ref C))(ha:CA X.je (a::as) gl)(hc:X.calm=true:=by rfl)(hg:Gl X x:=by rfl)(hdb:(x==("__debug__":aj))=false:=by decide)(he:Yp (a::as) X.env=(false,aF a X.env)::Yp as X.env:=by rfl)(hpl:(bN cpos (Yp as X.env)).any (·.1)=false:=by rfl):sy X any (.Raise (Ya (.Call (.Name x np) (a::as) [] cpos)) Ye pos) (yD c f gl):=by
 obtain⟨na,q,N,bs,bm,hdct,sn,sub,ab,col,dd,k0,k1,k2,k3,k5,lk,hN,hT⟩:=O.obj;obtain⟨oI,lI,cI⟩:∃oI,X.K.lookup fI=Ya oI/\oI.cls= .type "function":=by
  cases z:X.K.lookup fI with
  |none=>rw[z]at hfn;cases hfn|some oI=>rw[z]at hfn;exact⟨oI,rfl,eE hfn⟩
 intro pins s σ H D I z;obtain⟨ι,M,env,S,E,h⟩:=z;unfold yD at h;split at h
 .rename_i i M1 qg;split at h
  .rename_i hi;have hplain:(bN cpos (Yp (a::as) X.env)).any (·.1)=false:=by rw[he];show(false|| (bN cpos (Yp as X.env)).any (·.1))=false;rw[hpl];rfl
   rw[arm_exec_Raise];refine Yc (vf (PySem.W.AcN (C:=C) (nm:=na) (q:=q) (N:=N) (bs:=bs) (bm:=bm) (hdct:=hdct) (sn:=sn) (sub:=sub) (ab:=ab) (col:=col) (dd:=dd) (k0:=k0) (k1:=k1) (k2:=k2) (k3:=k3) (k5:=k5)
    ((hT X.base I.ok.mod.vM).hasType (by decide)) (I.ok.hd hc) ?_))
   refine Yc (eO (Vd (vO I hg hm ?_ hdb)) (λv s₃ h₃=>Yc (vf (Yr h₃))) λ_ _ x=>x);unfold Df;refine Yc (jb ?_);have key:=Ka (pos:=cpos) (R:=λus s2=>∃vs H1 ι1,Inv X pins σ H1 s2/\Vals vs us/\Ext X.K H ι H1 ι1/\aA X.K H1 ι1 M1/\Zt X.K H1 ι1 [.int i] vs) ha I S E qg (λus s1 vs H1 ι1 I1 r x1 S1 r1=>⟨vs,H1,ι1,I1,r,x1,S1,r1⟩);rw[hplain];rw[he]at key ⊢;refine DK (eO key (λus s2 zz=>?_) λ_ _ y=>y);obtain⟨vs,H1,ι1,I1,r,x1,S1,r1⟩:=zz;obtain⟨hp,g,d,tk,os⟩:=s2;refine Yc (vf ?_);refine Yc (Vb (I1.bO _ _ lk) ?_);obtain⟨mN,hns,hni⟩:=hN _ I1.bO;have l1:us.length=1:=by rw[←r.length,r1.length];rfl
   refine Yc (PySem.W.T6 (hT _ I1.bO) (I1.bO _ _ lk) hns hni (I1.bO _ _ lI) cI (by show us.length<=_;rw[l1];decide) λh' e mk=>?_);obtain⟨hn,I2⟩:=Zow I1 mk;obtain rfl:vs=[.int i]:=by obtain⟨v,ws,rfl,rv,jg⟩:=Zt.cons_inv r1;obtain rfl:=Zt.nil_inv jg;obtain rfl:v= .int i:=rv;rfl
   have r2:Vals (V.ref e::[V.int i]) (Value.ref e::us):=.cons rfl r;have hsp:Ko C (nm f) (V.ref e::[V.int i]) (upd H1 e (bU e C Ye)) (λv H2=>v= .non/\∃dx od,H1 dx=Ye/\dx≠e/\H2=upd (upd (upd H1 e (bU e C Ye)) e (bU e C (Ya dx))) dx (.bJ od (.xd [(nm f,.int i)]))) E0:=
    ⟨e,i,rfl,hi,dz,λdx od hd=>by
     have hde:dx≠e:=by rintro rfl;rw[dz]at hd;cases hd
     rw[Zr hde]at hd;exact⟨rfl,dx,od,hd,hde,rfl⟩⟩
   have hl:(Value.ref e::us++[]).length=ps.length:=by have z:=r2.length;rw[G.len _ _ _ _ hsp]at z;rw[iJ];exact z.symm
   have hb':=bi _ (Value.ref e::us) I2.bO hl;rw[iJ]at hb';refine qZ (tH (G.run _ X.stack _ _ ⟨Value.ref e::us,[]⟩ (Value.ref e::us) _ _ E0 (hr.make C us []) (I2.env0.make C us []) hb' r2 hsp) λr s' hq'=>?_);cases r with
   |error e=>exfalso;obtain⟨_,_,_,_,_,_,_,_,_,_,_,_,_,z⟩:=hq';exact z|ok fl=>
    cases fl with
    |next=>exact dH hq'|brk=>exact dH hq'|cont=>exact dH hq'|ret u=>
     obtain⟨v,H',I3,rv,ev,dx,od,hdx,hde,eH⟩:=I2.after hq';subst ev eH;have h3:(upd (upd (upd H1 e (bU e C Ye)) e (bU e C (Ya dx))) dx (.bJ od (.xd [(nm f,.int i)]))) e=Ya (bU e C (Ya dx)):=by rw[Zr (cQ hde),dz]
     obtain⟨I4,wC⟩:=Zq4 I1 mk.new I3 h3;obtain⟨⟨vs',sl,tv,g1,g2,g3,g4⟩,_⟩:=(show bZ X.prog X.w _ s'.heap e (bU e C (Ya dx))from I3.hok e _ h3);refine⟨rv,Yc (jb (C_ (Yr ⟨e,Ya dx,vs',sl,rfl,I3.bO _ _ lk,g1,g4,?_⟩)))⟩;rw[Zly hde]at I4 wC;have L1:Loose H1 dx:=.inl hdx;have S2:aA X.K (upd H1 dx (.bJ od (.xd [(nm f,.int i)]))) ι1 M1:=S1.other L1 (S1.fresh hdx);have hn2:upd H1 dx (.bJ od (.xd [(nm f,.int i)])) e=Ye:=by rw[Zr (cQ hde)];exact hn
     refine h σ e C _ (ι1++[e]) (λ_=>rfl) (x1.trans (L1.ext.trans (Loose.yX (.inl hn2)))) (S2.new hn2 (.inr ⟨C,Ya dx,dz,rfl,au,.inr ⟨dx,od,[(nm f,.int i)],rfl,?_,rfl,?_⟩⟩)) (Rep.ref (by rw[←S2.len];simp)) au pins _ I4 wC
     .rw[Zr hde,dz]
     .exact Zt.cons rfl Zt.nil
  .exact h.elim
 .exact h.elim
structure RM(K:Yb)(c:List Nat)(C:Yq)(f:aj):Prop where
 au:ClsAt K c C
 ga:fM K (.ref C) "__getattribute__" =Ya (Ya (.builtin "BaseException.__getattribute__"))
 gt:fM K (.ref C) "__getattr__" =Ya Ye
 mb:qb K C (.type "BaseException")=Ya true
 cd:(jM K C).map (·.hasDict)=Ya true
 nf:fM K (.ref C) f=Ya Ye
theorem Kp{c m:List Nat}{e:Expr}{f:E3}{fn:aj}{pos:aY}(G:RM X.K c C (nm m))(he:C3 X e f)(hf:fn=nm m:=by decide +kernel)(hb:oW e fn X.env (aF e X.env)=aF e X.env:=by rfl):C3 X (.Attribute e fn pos) (e1 (qT c m) f):=by
 subst hf;intro pins s σ H Q I h;obtain⟨ι,M,env,S,E,h⟩:=h;obtain⟨d,M1,e1,hh⟩:=Zw.bind h;refine Zqq hb (aP (he pins s σ H (λv H1=>∃ι1,Ext X.K H ι H1 ι1/\aA X.K H1 ι1 M1/\Rep X.K H1 ι1 d v) I ⟨ι,M,env,S,E,by rw[e1];exactλv H1 ι1 x1 S1 r1=>⟨ι1,x1,S1,r1⟩⟩) λu s1 z=>?_);obtain⟨v,H1,I1,rv,ι1,x1,S1,r1⟩:=z;unfold qT at hh;split at hh
 .rename_i n;split at hh
  .rename_i c' fs hn;split at hh
   .rename_i ec;subst ec;split at hh
    .rename_i g i;split at hh
     .rename_i eg;subst eg;obtain⟨a,ha,rfl⟩:=r1.d_;obtain rfl:u=Value.ref a:=rv;rcases S1.obj n _ a hn ha with⟨_,_,_,_,⟨_,z⟩,_⟩|⟨C',dd,q,_,ca,z⟩
      .exact absurd rfl z
      obtain rfl:C'=C:=by have z1:=ca.symm.trans G.au;injection z1 with z1;injection z1 with z1;injection z1
      rcases z with z|⟨dx,od,gs,rfl,hdx,yE,fr2⟩
      .cases z
      obtain⟨⟨o,vs,h1,h2,h3,h4⟩,_⟩:=(show bZ X.prog X.w H1 s1.heap a (lZ a C' (Ya dx))from I1.hok a _ q);obtain⟨_,mA,hns,hm⟩:=(show bZ X.prog X.w H1 s1.heap dx (.bJ od (.xd gs))from I1.hok dx _ hdx);obtain⟨cd,c1,c2⟩:∃cd,jM X.K C'=Ya cd/\cd.hasDict=true:=by
       cases z:jM X.K C' with
       |none=>have:=G.cd;rw[z]at this;cases this|some cd=>have:=G.cd;rw[z]at this;exact⟨cd,rfl,eE this⟩
      have lg:gs.lookup (nm g)=Ya (.int i):=by
       obtain⟨v,ws,e2,r3,r4⟩:=Zt.cons_inv fr2;obtain rfl:=Zt.nil_inv r4;obtain rfl:v= .int i:=r3
       match gs,yE,e2 with
       |[(a,b)],yE,e2=>simp at yE e2;subst yE e2;rw[jc,beq_self_eq_true]
      have hm:=hm (nm g);rw[lg]at hm;cases hv:mA (nm g)with
      |none=>rw[hv]at hm;exact hm.elim|some uv=>rw[hv]at hm;obtain⟨ti,rfl⟩:∃t,uv=Value.int i t:=hm;exact PySem.W.Adb G.ga G.gt G.mb I1.bO ⟨o,h1,h2⟩ (PySem.W.AcY I1.bO h1 h2 h3 h4 hns hv c1 c2 G.nf) rfl ⟨.int i,H1,I1.tok _,⟨ti,rfl⟩,hh _ _ ι1 x1 S1 rfl⟩
     .exact hh.elim
    .exact hh.elim
   .exact hh.elim
  .exact hh.elim
 .exact hh.elim
end
end L3
set_option Elab.async false
set_option linter.all false
set_option maxRecDepth 100000
namespace L3
open PySem PySem.Spec PyProof.Rows L2
structure Kq(K:Yb)(c:List Nat)(C CL fI:Yq)(f qual:aj)(st:Yd2)(ps:List aj):Prop where
 own:yw K C CL fI f
 au:ClsAt K c C
 fn:∃fd,pF K "__init__" qual st fI fd/\Binds K fd ps []
 fc:(K.lookup fI).map (·.cls)=Ya (.type "function")
def Znh(P:Y3)(w:aO)(K:Yb)(mg:aj->Option Yd)(base:aq)(C fI:Yq)(f:aj)(ps:List aj):Prop:=∃fd,Binds K fd ps []/\fC P w K mg base (kh P w) 1 fI fd ps (Ko C f)
theorem ZtY{C:Yq}{f:aj}{e:Yq}{i:Int}{H:Hp}{D:Ends}{N:List aj}(hN:N.length=2)(hi:i.natAbs.log2<1000)(he:H e=Ya (bU e C Ye))(hq:∀dx od,H dx=Ye->D.nx (L2.start N [.ref e,.int i]) (upd (upd H e (bU e C (Ya dx))) dx (.bJ od (.xd [(f,.int i)])))):
  Pz (PB (zW (λxs H Q=>∃e y,xs=[.ref e,.str y]/\H e=Ya (bU e C Ye)/\Q .non H) (zV (t_ 0) (zV (λσ H Q=>t_ 1 σ H λy H1=>∃i,y= .int i/\i.natAbs.log2<1000/\∀z,Q (.str z) H1) Jw))))
   (λD σ H=>t_ 1 σ H λy H1=>t_ 0 σ H1 λx H2=>∃e i,x= .ref e/\y= .int i/\H2 e=Ya (bU e C Ye)/\∀dx od,H2 dx=Ye->D.nx σ (upd (upd H2 e (bU e C (Ya dx))) dx (.bJ od (.xd [(f,.int i)])))) D (L2.start N [.ref e,.int i]) H:=by
 have h0:(L2.start N [.ref e,.int i])[0]?=Ya (Ya (.ref e)):=rfl;have h1:(L2.start N [.ref e,.int i])[1]?=Ya (Ya (.int i)):=rfl;exact⟨_,h0,_,h1,i,rfl,hi,λz=>⟨e,z,rfl,he,_,h1,_,h0,e,i,rfl,rfl,he,hq⟩⟩
theorem ZkV{X:Cx}{any:Bool}{c f:List Nat}{C CL fI:Yq}{qual fn:aj}{st:Yd2}{ps:List aj}{x:aj}{np cpos pos:aY}{a:Expr}{as:List Expr}{gl:cN}(R:Kq X.K c C CL fI fn qual st ps)(G:Znh X.prog X.w X.K X.mg X.base C fI fn ps)(hr:cL 2 X.A)(hm:X.mg x=Ya (.ref C))(ha:CA X.je (a::as) gl)(hf:fn=nm f:=by decide +kernel)(hc:X.calm=true:=by rfl)(hg:Gl X x:=by rfl)(hdb:(x==("__debug__":aj))=false:=by decide)(he:Yp (a::as) X.env=(false,aF a X.env)::Yp as X.env:=by rfl)(hpl:(bN cpos (Yp as X.env)).any (·.1)=false:=by rfl):sy X any (.Raise (Ya (.Call (.Name x np) (a::as) [] cpos)) Ye pos) (yD c f gl):=by subst hf;obtain⟨fd,b,G⟩:=G;exact ZkI (CL:=CL) R.own R.au R.fc G b hr hm ha hc hg hdb he hpl
section
variable {K:Yb} {c:List Nat} {C CL fI:Yq} {f qual:aj} {st:Yd2} {ps:List aj}
theorem Ztf{na q:aj}{N:Yq}{bs bm:List Yd}{hdct:Bool}{sn:List aj}{sub:List Yd}{ab:Bool}{col:Option Bool}{dd:Option Yq}{k0 k1 k2 k3 k5:Option Yd}{cd:PySem.ClassData}{oc dV kV doc pm cdv ct:Yd}{od an:Option Yq}{osl:Array (Option Yd)}(au:ClsAt K c C)(lk:K.lookup C=Ya (qd na q C N bs bm hdct sn sub ab col dd k0 k1 k2 k3 k5 "ValueError.__new__"))(hN:∀h:aq,K.In h->∃mN,h.Ns N mN/\mN "__init__" =Ya (.ref fI))(hT:∀h:aq,K.In h->OwnTail h PySem.W.qR bm)(cl:jM K C=Ya cd)(c2:cd.hasDict=true)(c3:cd.mro= .ref C:: .ref CL::PySem.W.qR)(sa:fM K (.ref C) "__setattr__" =Ya (Ya (.builtin "object.__setattr__")))(nf:fM K (.ref C) f=Ya Ye)(mo:qb K C (.type "object")=Ya true)(ga:yZ K (.ref CL) "__getattribute__" =Ya (Ya (.builtin "type.__getattribute__")))(rd:Mx K CL (.type "type")=true)(fc:Mz K (.ref CL) (.type "type") "__init__" =Ya (.val (.builtin "ValueError.__init__")))(l:K.lookup fI=Ya ⟨oc,od,.func (qY "__init__" qual (qx st) (jx st) (Zv st) dV kV doc pm an cdv ct),osl⟩)(ci:CJ K cdv qual=true)(kp:wY K (.ref fI)=true)(ho:oc= .type "function")(b:Binds K (qY "__init__" qual (qx st) (jx st) (Zv st) dV kV doc pm an cdv ct) ps []):Kq K c C CL fI f qual st ps:=⟨⟨⟨na,q,N,bs,bm,hdct,sn,sub,ab,col,dd,k0,k1,k2,k3,k5,lk,hN,hT⟩,⟨cd,cl,c2,c3⟩,sa,nf,mo,ga,rd,fc⟩,au,⟨_,⟨⟨oc,od,dV,kV,doc,pm,an,cdv,ct,osl,rfl,l,ci⟩,kp⟩,b⟩,by rw[l,ho];rfl⟩
theorem Zmb{cd:PySem.ClassData}(au:ClsAt K c C)(ga:fM K (.ref C) "__getattribute__" =Ya (Ya (.builtin "BaseException.__getattribute__")))(gt:fM K (.ref C) "__getattr__" =Ya Ye)(mb:qb K C (.type "BaseException")=Ya true)(cl:jM K C=Ya cd)(c2:cd.hasDict=true)(nf:fM K (.ref C) f=Ya Ye){m:List Nat}(hf:f=nm m:=by decide +kernel):RM K c C (nm m):=by subst hf;exact⟨au,ga,gt,mb,by rw[cl,←c2];rfl,nf⟩
end
open PySem
noncomputable section
noncomputable def Zxq(f:E3):rR:=λenv M=>(f env M).bind λa M1=>match a with
 | .ref n=>match M1[n]? with
  |some (.lst ds)=>.ok ⟨ds.reverse,[(n,ds)]⟩ M1|_=>.bad
 |_=>.bad
noncomputable def anyB(l:List D):Option Bool:=if l.all vY then Ya (l.any qC)else Ye
noncomputable def RN(ds:List D)(M:Store):R3 D:=match ds with
 | [.ref n]=>match M[n]? with
  |some (.lst x)=>match anyB x with
   |some b=>.ok (.bl b) M|none=>.bad
  |_=>.bad
 |_=>.bad
@[simp] theorem Bo{M:Store}:∀n,RN ([.ref n]) M=(match M[n]? with
  |some (.lst x)=>match anyB x with
   |some b=>.ok (.bl b) M|none=>.bad
  |_=>.bad):=λ_=>rfl
end
end L3
namespace L3
open PySem PySem.Spec PyProof.Rows L2
set_option maxRecDepth 100000
theorem Zsp:gb "any" =Ya (.builtin "any"):=by decide +kernel
theorem Zhj{α:Type}{z:List α}{p:α->Bool}{tr:Nat->Bool}(h:∀j d,z[j]?=Ya d->tr j=p d):(kW z.length).any tr=z.any p:=by
 rw[Dt,VP,VP];constructor
 .rintro⟨j,hj,e⟩;have hl:j<z.length:=HD.mp hj;exact⟨z[j],o5 hl,by rw[←h j z[j] (by simp[hl])];exact e⟩
 .rintro⟨d,hd,e⟩;obtain⟨j,hj,rfl⟩:=List.mem_iff_getElem.mp hd;exact⟨j,HD.mpr hj,by rw[h j z[j] (by simp[hj])];exact e⟩
section
variable {X:Cx}
theorem Zun(hc:X.calm=true):cg X (.builtin "any") (rB X.K RN):=by
 intro pins s σ H xs us Q I rs h;obtain⟨ι,M,ds,S,rd,h⟩:=h;cases ds with
 |nil=>exact h.elim|cons d ds=>
  cases ds with
  |cons _ _=>cases d<;>exact h.elim|nil=>
   obtain⟨x,rfl,r⟩:=wA rd;obtain⟨u,rfl,ru⟩:=vals1 rs;cases d with
   | ref n=>
    cases hn:M[n]? with
    |none=>rw[Bo,hn]at h;exact h.elim|some o=>
     cases o with
     |dct _=>rw[Bo,hn]at h;exact h.elim|cR _=>rw[Bo,hn]at h;exact h.elim|ins _ _=>rw[Bo,hn]at h;exact h.elim|lst z=>
      simp only[Bo,hn]at h;cases q:anyB z with
      |none=>rw[q]at h;exact h.elim|some b=>
       rw[q]at h;obtain⟨a,ha,rfl⟩:=r.d_;cases ru;obtain⟨vs,ev,rv⟩:=S.obj n _ a hn ha;obtain⟨its,rr,pl,_⟩:=I.list (bQ.of ev);have hz:z.all vY=true/\z.any qC=b:=by
        unfold anyB at q;split at q
        .rename_i hz;exact⟨hz,eE q⟩
        .cases q
       have hlen:its.toArray.size=z.length:=by rw[Yl,←rr.length,rv.length]
       have Rk:X.A.in1.handled=Ye:=I.ok.hd hc;refine call_any_walk (w5 pl.isList ⟨s.heap.objs.size,_,_,_,_,_,(λj=>match z[j]? with|some d=>qC d|none=>false),rfl,Walks.list Rk s.heap.objs.size a (eQ (I.hok.lt ev)) its.toArray,⟨⟨_,Yw _ rfl,rfl,rfl⟩,pl.isList.at λo e=>Yh _ e⟩,?_,?_⟩)
       .intro j v s' Q' E' hv hq;have hv':its[j]?=Ya v:=by simpa using hv
        have hj:j<z.length:=by have:=(Yn.mp hv').1;rw[←Yl,hlen]at this;exact this
        have e1:z[j]?=Ya z[j]:=by simp[hj]
        have hb:=fB.mp hz.1 _ (o5 hj);obtain⟨w,g1,g2⟩:=rv.get e1;obtain⟨u',k1,k2⟩:=rr.get g1;rw[hv']at k1;cases k1;have hq':Q' (qC z[j]) s':=by have:=hq;simp only[e1]at this;exact this
        generalize z[j]=dj at hb g2 hq';cases dj with
        |bl c=>have:=g2.g_;subst this;cases k2;exact CN hq'|_=>simp[vY]at hb
       .intro h' tk kk;rw[hlen,Zhj (p:=qC) (λj d hd=>by rw[hd]),hz.2];exact⟨.bl b,H,I.kept (λc o e=>kk c o (by simp;exact eQ (Yx e)) (Yh _ e)),rfl,Zw.ok h S Rep.bl⟩
   |_=>exact h.elim
end
open PySem
noncomputable section
local instance (priority:=100000) Ad5 (p:Prop):Decidable p:=Ys p
noncomputable def yF(a b:aj)(f:E3):E3:=λenv M=>(f env M).bind λd M1=>match d with
 | .int i=>if i.natAbs.log2<1000 then .ok (.str (rn++a++jV (rD i)++b).cps.toList) M1 else .bad|_=>.bad
end
end L3
namespace L3
open PySem
noncomputable def Zxv(c:List Nat)(g:cN):E3:=λenv M=>match g env M with
 | .ok [_] M1=>.ok (.ref M1.length) (M1++[.ins (0::c) []])|_=>.bad
end L3
namespace L3
open PySem
noncomputable section
noncomputable def yG(c f:List Nat)(P:D->Bool)(g:cN):E3:=λenv M=>match g env M with
 | .ok [d] M1=>if P d then .ok (.ref M1.length) (M1++[.ins (0::c) [(f,d)]])else .bad|_=>.bad
noncomputable def Ft:D->Bool
 | .int i=>decide (i.natAbs.log2<1000)|_=>false
end
end L3
namespace L3
open PySem PySem.Spec PyProof.Rows L2
set_option maxRecDepth 100000
section
variable {X:Cx} {value:Expr} {p1 p2 p3 pos:aY} {tv:TE} {f:E3}
theorem Zon{ca cb:aj}{yx yC}(hv:PE X value tv)(hl:ca.length+cb.length<=100:=by decide +kernel):
  PE X (.JoinedStr [.Constant (.str ca) yx p1,.FormattedValue value (-1) Ye p2,.Constant (.str cb) yC p3] pos) (λσ H Q=>tv σ H λy H1=>∃i,y= .int i/\i.natAbs.log2<1000/\Q (.str (rn++ca++jV (rD i)++cb)) H1):=by
 intro pins s σ H Q I h;have z0:(rn++ca).length<=bj:=by rw[oX,mK];have:Str.empty.length=0:=rfl;omega
 refine Vl ?_;show Y8 _ _ (aF (.Constant (.str ca) yx p1) X.env) _ _ s;refine aP (Eh pins s σ H (λv H'=>v= .str ca/\H'=H) I ⟨rfl,rfl⟩) λu s1 z=>?_;obtain⟨v,H1,I1,r1,e1,e2⟩:=z;subst e1 e2;obtain⟨t1,rfl⟩:=r1;refine⟨ca,t1,rfl,z0,?_⟩;show Y8 _ _ (aF (.FormattedValue value (-1) Ye p2) X.env) _ _ s1;refine U5 (aP (hv pins s1 σ _ _ I1 h) λu2 s2 z=>?_);obtain⟨y,H2,I2,r2,i,e1,hi,hq⟩:=z;subst e1;obtain⟨t2,rfl⟩:=r2;have zi:=Zj5 hi;have z1:(rn++ca++jV (rD i)).length<=bj:=by rw[oX,oX,mK];have:Str.empty.length=0:=rfl;omega
 have z2:(rn++ca++jV (rD i)++cb).length<=bj:=by rw[oX,oX,oX,mK];have:Str.empty.length=0:=rfl;omega
 refine U8 (tX hi (by decide)) ⟨_,_,rfl,z1,?_⟩;show Y8 _ _ (aF (.Constant (.str cb) yC p3) X.env) _ _ _;refine aP (Eh pins _ σ H2 (λv H'=>v= .str cb/\H'=H2) (I2.tok _) ⟨rfl,rfl⟩) λu3 s3 z=>?_;obtain⟨v,H3,I3,r3,e1,e2⟩:=z;subst e1 e2;obtain⟨t3,rfl⟩:=r3;exact⟨cb,t3,rfl,z2,z2,⟨.str _,_,I3.tok _,⟨_,rfl⟩,hq⟩⟩
theorem ZsG{ca cb:aj}{yx yC}(h:C3 X value f)(hl:ca.length+cb.length<=100:=by decide +kernel):C3 X (.JoinedStr [.Constant (.str ca) yx p1,.FormattedValue value (-1) Ye p2,.Constant (.str cb) yC p3] pos) (yF ca cb f):=
 (Zon h hl).imp λσ H Q z=>by
  obtain⟨ι,M,env,S,E,h⟩:=z;obtain⟨d,M1,e1,h⟩:=Zw.bind h;refine⟨ι,M,env,S,E,?_⟩;rw[e1];intro v H1 ι1 x1 S1 r;cases d with
  | int i=>
   obtain rfl:=r.int_inv;simp only at h;split at h
   .rename_i hi;exact⟨i,rfl,hi,h _ H1 ι1 x1 S1 Rep.str⟩
   .exact h.elim
  |_=>exact h.elim
end
set_option maxRecDepth 100000
section
variable {X:Cx} {o value:Expr} {f:aj} {p1 p2 pos pos':aY} {C CL fI:Yq} {ta tv:TE}
theorem ZqD(O:yw X.K C CL fI f)(ha:PE X o ta)(hv:PE X value tv)(hs:xj value (Ya (.Attribute o f pos')) pos.line X.env=pure false:=by rfl):
  PS X (.Assign [.Attribute o f pos'] value pos) (λD σ H=>tv σ H λy H1=>ta σ H1 λx H2=>∃e,x= .ref e/\H2 e=Ya (bU e C Ye)/\∀dx od,H2 dx=Ye->D.nx σ (upd (upd H2 e (bU e C (Ya dx))) dx (.bJ od (.xd [(f,y)])))):=by
 intro pins s σ H D I h;refine U4 (aP (hv pins s σ H _ I h) λu s1 z=>?_) hs;obtain⟨y,H1,I1,ry,q⟩:=z;refine aP (ha pins s1 σ H1 _ I1 q) λov s2 z=>?_;obtain⟨x,H2,I2,rx,e,ex,he,q2⟩:=z;subst ex;obtain rfl:ov=Value.ref e:=rx;obtain⟨cd,c1,c2,c3⟩:=O.cls;obtain⟨⟨vs,sl,tv,h1,h2,h3,h4⟩,_⟩:=(show bZ X.prog X.w H2 s2.heap e (bU e C Ye)from I2.hok e _ he);refine PySem.W.Ub I2.bO h1 rfl rfl rfl c1 c2 c3 O.sa O.nf O.mo λh' tk' g1 g2 k1=>?_;have hdx:s2.heap.get? s2.heap.objs.size=Ye:=Dn (Yt _);obtain⟨od,es,ep,e1,e2,e3,e4,e5⟩:=id g2;refine⟨σ,_,ZjC (φ':=Bm e C (Ya s2.heap.objs.size)) (o2:=.bJ od (.xd [(f,y)])) I2 he hdx k1 (λH'=>Kl ⟨vs,sl,tv,g1,h2,h3,h4⟩) (λH'=>⟨e1,_,g2,λn=>?_⟩),q2 _ od (Km I2 hdx)⟩;by_cases hn:n=f
 .rw[hn,if_pos rfl,jc,beq_self_eq_true];exact ry
 .rw[if_neg hn,jc,beq_eq_false_iff_ne.mpr hn];exact trivial
end
set_option maxRecDepth 100000
noncomputable def Kr(C:Yq)(f:aj)(ok:V->Hp->Prop):Sp:=λvs H Q _=>∃e y,vs=[.ref e,y]/\ok y H/\H e=Ya (bU e C Ye)/\∀dx od,H dx=Ye->Q .non (upd (upd H e (bU e C (Ya dx))) dx (.bJ od (.xd [(f,y)])))
variable{ps:List aj}
section
variable {P:Y3} {w:aO} {K:Yb} {mg:aj->Option Yd} {base:aq}
theorem fnV{ok:V->Hp->Prop}{k:Nat}{C fI:Yq}{f x qual:aj}{st:Yd2}{fd:gM}{N:List aj}(F:pF K x qual st fI fd)(S:eU N ps (Zv st))(hl:ps.length=2)(hb:∀(cdv:Yd) (A:bB) (outer:List cH) (s:Yf) (H:Hp) (E:XK),cL k (A.deeper (k_ qual (Zv st) s.heap.objs.size fI cdv))->∃t,jd (nZ (kh P w) P w K mg base N qual (Zv st) fI cdv A outer s H E) (jx st) t/\
   ∀D e y,ok y H->H e=Ya (bU e C Ye)->(∀dx od,H dx=Ye->D.nx (L2.start N [.ref e,y]) (upd (upd H e (bU e C (Ya dx))) dx (.bJ od (.xd [(f,y)]))))->t D (L2.start N [.ref e,y]) H):
  fC P w K mg base (kh P w) (k+1) fI fd ps (Kr C f ok):=by
 obtain⟨oc,od,dV,kV,doc,pm,an,cdv,ct,osl,rfl,lk,hcd⟩:=F.ex;refine Jx lk hcd S (λvs H Q E ⟨e,y,r,_⟩=>by rw[r,hl];rfl) λA outer s H vs Q E hr ak=>?_;obtain⟨e,y,rfl,hi,he,hq⟩:=ak;obtain⟨t,ht,q⟩:=hb cdv A outer s H E hr;exact⟨t,ht,q _ e y hi he hq⟩
end
section
variable {X:Cx}
theorem Zux{c f:List Nat}{C CL fI:Yq}{k:Nat}{fd:gM}{x:aj}{np cpos:aY}{a:Expr}{as:List Expr}{gl:cN}{P:D->Bool}{ok:V->Hp->Prop}(O:yw X.K C CL fI (nm f))(au:ClsAt X.K c C)(hfn:(X.K.lookup fI).map (·.cls)=Ya (.type "function"))(G:fC X.prog X.w X.K X.mg X.base (kh X.prog X.w) k fI fd ps (Kr C (nm f) ok))(bi:Binds X.K fd ps [])(hok:∀d v H ι,P d=true->Rep X.K H ι d v->∀e u,H e=Ye->ok v (upd H e u))(hr:cL (k+1) X.A)(hm:X.mg x=Ya (.ref C))(ha:CA X.je (a::as) gl)(hg:Gl X x:=by rfl)(hdb:(x==("__debug__":aj))=false:=by decide)(he:Yp (a::as) X.env=(false,aF a X.env)::Yp as X.env:=by rfl)(hpl:(bN cpos (Yp as X.env)).any (·.1)=false:=by rfl):C3 X (.Call (.Name x np) (a::as) [] cpos) (yG c f P gl):=by
 obtain⟨na,q,N,bs,bm,hdct,sn,sub,ab,col,dd,k0,k1,k2,k3,k5,lk,hN,hT⟩:=O.obj;obtain⟨oI,lI,cI⟩:∃oI,X.K.lookup fI=Ya oI/\oI.cls= .type "function":=by
  cases z:X.K.lookup fI with
  |none=>rw[z]at hfn;cases hfn|some oI=>rw[z]at hfn;exact⟨oI,rfl,eE hfn⟩
 intro pins s σ H Q I z;obtain⟨ι,M,env,S,E,h⟩:=z;unfold yG at h;split at h
 .rename_i dv M1 qg;split at h
  .rename_i hi;have hplain:(bN cpos (Yp (a::as) X.env)).any (·.1)=false:=by rw[he];show(false|| (bN cpos (Yp as X.env)).any (·.1))=false;rw[hpl];rfl
   refine Vd (vO I hg hm ?_ hdb);unfold Df;refine Yc (jb ?_);have key:=Ka (pos:=cpos) (R:=λus s2=>∃vs H1 ι1,Inv X pins σ H1 s2/\Vals vs us/\Ext X.K H ι H1 ι1/\aA X.K H1 ι1 M1/\Zt X.K H1 ι1 [dv] vs) ha I S E qg (λus s1 vs H1 ι1 I1 r x1 S1 r1=>⟨vs,H1,ι1,I1,r,x1,S1,r1⟩);rw[hplain];rw[he]at key ⊢;refine DK (eO key (λus s2 zz=>?_) λ_ _ y=>y);obtain⟨vs,H1,ι1,I1,r,x1,S1,r1⟩:=zz;obtain⟨hp,g,d,tk,os⟩:=s2;refine Yc (vf ?_);refine Yc (Vb (I1.bO _ _ lk) ?_);obtain⟨mN,hns,hni⟩:=hN _ I1.bO;have l1:us.length=1:=by rw[←r.length,r1.length];rfl
   refine Yc (PySem.W.T6 (hT _ I1.bO) (I1.bO _ _ lk) hns hni (I1.bO _ _ lI) cI (by show us.length<=_;rw[l1];decide) λh' e mk=>?_);obtain⟨hn,I2⟩:=Zow I1 mk;obtain⟨y,ws,rfl,ry,jg⟩:=Zt.cons_inv r1;obtain rfl:=Zt.nil_inv jg;have r2:Vals (V.ref e::[y]) (Value.ref e::us):=.cons rfl r;have hsp:Kr C (nm f) ok (V.ref e::[y]) (upd H1 e (bU e C Ye)) (λv H2=>v= .non/\∃dx od,H1 dx=Ye/\dx≠e/\H2=upd (upd (upd H1 e (bU e C Ye)) e (bU e C (Ya dx))) dx (.bJ od (.xd [(nm f,y)]))) E0:=
    ⟨e,y,rfl,hok dv y H1 ι1 hi ry e _ hn,dz,λdx od hd=>by
     have hde:dx≠e:=by rintro rfl;rw[dz]at hd;cases hd
     rw[Zr hde]at hd;exact⟨rfl,dx,od,hd,hde,rfl⟩⟩
   have hl:(Value.ref e::us++[]).length=ps.length:=by have z:=r2.length;rw[G.len _ _ _ _ hsp]at z;rw[iJ];exact z.symm
   have hb':=bi _ (Value.ref e::us) I2.bO hl;rw[iJ]at hb';refine qZ (tH (G.run _ X.stack _ _ ⟨Value.ref e::us,[]⟩ (Value.ref e::us) _ _ E0 (hr.make C us []) (I2.env0.make C us []) hb' r2 hsp) λr s' hq'=>?_);cases r with
   |error e=>obtain⟨_,_,_,_,_,_,_,_,_,_,_,_,_,z⟩:=hq';exact z.elim|ok fl=>
    cases fl with
    |next=>exact dH hq'|brk=>exact dH hq'|cont=>exact dH hq'|ret u=>
     obtain⟨v,H',I3,rv,ev,dx,od,hdx,hde,eH⟩:=I2.after hq';subst ev eH;have h3:(upd (upd (upd H1 e (bU e C Ye)) e (bU e C (Ya dx))) dx (.bJ od (.xd [(nm f,y)]))) e=Ya (bU e C (Ya dx)):=by rw[Zr (cQ hde),dz]
     obtain⟨I4,wC⟩:=Zq4 I1 mk.new I3 h3;refine⟨rv,Yc (jb (C_ (Yr ?_)))⟩;rw[Zly hde]at I4 wC;have L1:Loose H1 dx:=.inl hdx;have S2:aA X.K (upd H1 dx (.bJ od (.xd [(nm f,y)]))) ι1 M1:=S1.other L1 (S1.fresh hdx);have hn2:upd H1 dx (.bJ od (.xd [(nm f,y)])) e=Ye:=by rw[Zr (cQ hde)];exact hn
     have x2:Ext X.K H1 ι1 (upd (upd H1 dx (.bJ od (.xd [(nm f,y)]))) e (lZ e C (Ya dx))) (ι1++[e]):=L1.ext.trans (Loose.yX (.inl hn2));refine⟨.ref e,_,I4,rfl,h _ _ (ι1++[e]) (x1.trans x2) (S2.new hn2 (.inr ⟨C,Ya dx,dz,rfl,au,.inr ⟨dx,od,[(nm f,y)],rfl,?_,rfl,?_⟩⟩)) (Rep.ref (by rw[←S2.len];simp))⟩
     .rw[Zr hde,dz]
     .exact Zt.cons (ry.mono x2) Zt.nil
  .exact h.elim
 .exact h.elim
end
set_option maxRecDepth 100000
noncomputable def okN:V->Hp->Prop:=λy _=>∃i,y= .int i/\i.natAbs.log2<1000
def Zl2(P:Y3)(w:aO)(K:Yb)(mg:aj->Option Yd)(base:aq)(C fI:Yq)(f:aj)(ps:List aj)(ok:V->Hp->Prop):Prop:=∃fd,Binds K fd ps []/\fC P w K mg base (kh P w) 1 fI fd ps (Kr C f ok)
theorem ZuB{C:Yq}{f:aj}{e:Yq}{y:V}{H:Hp}{D:Ends}{N:List aj}(hN:N.length=2)(hi:okN y H)(he:H e=Ya (bU e C Ye))(hq:∀dx od,H dx=Ye->D.nx (L2.start N [.ref e,y]) (upd (upd H e (bU e C (Ya dx))) dx (.bJ od (.xd [(f,y)])))):
  Pz (PB (zW (λxs H Q=>∃e y,xs=[.ref e,.str y]/\H e=Ya (bU e C Ye)/\Q .non H) (zV (t_ 0) (zV (λσ H Q=>t_ 1 σ H λy H1=>∃i,y= .int i/\i.natAbs.log2<1000/\∀z,Q (.str z) H1) Jw))))
   (λD σ H=>t_ 1 σ H λy H1=>t_ 0 σ H1 λx H2=>∃e,x= .ref e/\H2 e=Ya (bU e C Ye)/\∀dx od,H2 dx=Ye->D.nx σ (upd (upd H2 e (bU e C (Ya dx))) dx (.bJ od (.xd [(f,y)])))) D (L2.start N [.ref e,y]) H:=by
 obtain⟨i,rfl,hi⟩:=hi;have h0:(L2.start N [.ref e,.int i])[0]?=Ya (Ya (.ref e)):=rfl;have h1:(L2.start N [.ref e,.int i])[1]?=Ya (Ya (.int i)):=rfl;exact⟨_,h0,_,h1,i,rfl,hi,λz=>⟨e,z,rfl,he,_,h1,_,h0,e,rfl,he,hq⟩⟩
theorem ZtN{X:Cx}{c f:List Nat}{C CL fI:Yq}{qual fn:aj}{st:Yd2}{x:aj}{np cpos:aY}{a:Expr}{as:List Expr}{gl:cN}{P:D->Bool}{ok:V->Hp->Prop}(R:Kq X.K c C CL fI fn qual st ps)(G:Zl2 X.prog X.w X.K X.mg X.base C fI fn ps ok)(hok:∀d v H ι,P d=true->Rep X.K H ι d v->∀e u,H e=Ye->ok v (upd H e u))(hr:cL 2 X.A)(hm:X.mg x=Ya (.ref C))(ha:CA X.je (a::as) gl)(hf:fn=nm f:=by decide +kernel)(hg:Gl X x:=by rfl)(hdb:(x==("__debug__":aj))=false:=by decide)(he:Yp (a::as) X.env=(false,aF a X.env)::Yp as X.env:=by rfl)(hpl:(bN cpos (Yp as X.env)).any (·.1)=false:=by rfl):C3 X (.Call (.Name x np) (a::as) [] cpos) (yG c f P gl):=by subst hf;obtain⟨fd,b,G⟩:=G;exact Zux (CL:=CL) R.own R.au R.fc G b hok hr hm ha hg hdb he hpl
theorem Zu6{K:Yb}(d:D)(v:V)(H:Hp)(ι:List Yq)(h:Ft d=true)(r:Rep K H ι d v)(e:Yq)(u:HO)(_:H e=Ye):okN v (upd H e u):=by
 cases d with
 |int i=>obtain rfl:=r.int_inv;exact⟨i,rfl,of_decide_eq_true h⟩|_=>cases h
open PySem PySem.W PyProof.Rows PySem.Calls
variable{X:Yf->Bool}{ann:Option Yd}{L:List aj}{w:aO}{p:Y3}
theorem ZpG{q:Y3}{α:Type}{Y:Yf->α}{a:α}{N:Nat}{g0:Bool}{H:aq}{gs:Array GenState}{d:Drawn}{k m M:Nat}(ho:(fencedOpening nF p w N).map (λs=>(s.heap,s.gens,s.drawn,s.toks))=Ya (H,gs,d,k))(hz:(H.isNs Y4&&gs.size==0,H.objs.size,H.nsMap Y4 "__annotations__")=(true,m,ann))(hr:∀os,∃s,topRun nF p w m ann M ⟨H,gs,d,k,os⟩ (topStub p)=Ya s/\(staticsOk (zc p.main.body) H s.heap&&namesBound p s.heap&&gensDone s&&laidKept H s.heap)=true/\openSeen q L (zc p.main.body) X g0 s=openGood q L/\Y s=a)(hl:ir M N=true):(openEnds nF p w N).map (λs=>(openSeen q L (zc p.main.body) X g0 s,Y s))=Ya (openGood q L,a):=by
 obtain⟨⟨h,gs',d',k',os⟩,e,e'⟩:=Ut.mp ho;obtain⟨rfl,rfl,rfl,rfl⟩:h=H/\gs'=gs/\d'=d/\k'=k:=by cases e';exact⟨rfl,rfl,rfl,rfl⟩
 have z1:=congrArg (·.1) hz;have z2:=congrArg (·.2.1) hz;have z3:=congrArg (·.2.2) hz;dsimp only at z1 z2 z3;obtain⟨s,r,l1,l2,l3⟩:=hr os;have r:=topRun_mono (N-M) _ _ _ _ r;rw[show M+(N-M)=N from Nat.add_sub_cancel' (kY hl)]at r;have t:topFrom nF p w N ⟨h,gs',d',k',os⟩=Ya s:=by unfold topFrom;dsimp only;rw[z1,z2,z3,r];show(match staticsOk (zc p.main.body) h s.heap&&namesBound p s.heap&&gensDone s&&laidKept h s.heap with|true=>_|false=>_)=_;rw[l1]
 unfold openEnds;rw[e];show(topFrom nF p w N _).map _=_;rw[t];exact congrArg Ya (Prod.ext l2 l3)
theorem Zsg{m:Nat}{s:Yf}{c:Code}{pos q:aY}:topRun nF p w m ann 2 s ⟨doneF .next,c,pos,[topFrame q]⟩=Ya s:=by obtain⟨a,b,d,e,f⟩:=s;rfl
theorem ZrI{m:Nat}{n0 n1 n:Nat}{S Sa:Yf}{T T':SharedT}{b:List Yd2}{env:cH}{q pos pos1 pos2:aY}(ha:topGo nF p w m ann n0 S (topStub p)=Ya (Sa,⟨denote nF (.body b env),.body b env,pos,[topFrame q]⟩))(hb:segRun nF p w m ann 1 n1 Sa (blockOf b env (.body b env) pos [topFrame q])=Ya (.next,T.abs,.body b env,pos1))(hr:segRunT nF p w m ann 1 n T (piecesOf b env (.body b env) pos1 [topFrame q])=Ya (.next,T',.body b env,pos2)):
  topRun nF p w m ann (n0+(n1+(n+2))) S (topStub p)=Ya T'.abs:=by
 have h:=piece_app (rest:=[]) (segRun_of hr) (piece_nil Zsg);rw[iJ]at h;exact go_top ha (piece_block hb h)
theorem Zsv{A B C D E F:Type}{a a':A}{b b':B}{c c':C}{d d':D}{e e':E}{f f':F}(h:(a,b,c,d,e,f)=(a',b',c',d',e',f')):a=a'/\b=b'/\c=c'/\d=d'/\e=e'/\f=f':=by cases h;exact⟨rfl,rfl,rfl,rfl,rfl,rfl⟩
noncomputable def RP:List aB->List aB
 |a::_::l=>a::RP l|l=>l
noncomputable def RQ:Nat->List aB->BT
 |n+1,o::l=>.node o (RQ n (RP l)) (RQ n (RP l.tail))|_,_=>.nil
noncomputable abbrev hV(p:Y3):cH:={scope:=p.main.scope,locals:=mainNs,globals:=mainNs,cells:=[],code:=.ref 13,frame:=Ya 14}
noncomputable abbrev hO:aY:=⟨0,0,0,0⟩
noncomputable abbrev hK(p:Y3):Code:=.body (behindTheImports p) (hV p)
noncomputable abbrev hF:List Frame:=[topFrame hO]
noncomputable abbrev hS(w:aO)(os:OsState):Yf:=⟨boot_heap w.params,⟨[]⟩,boot_drawn,boot_toks,os⟩
noncomputable def hT(s:Yf):SharedT:=⟨RQ 8 s.heap.objs.toList,s.heap.objs.size,s.heap.life,s.gens,s.drawn,s.toks,s.os⟩
noncomputable abbrev hU:=Fast.tw14364793385576792824
noncomputable abbrev hW(w:aO)(b:Bool):aO:=w.withFollow "special-get-raises" b
noncomputable def RT(p:Y3)(w:aO)(os:OsState):=Fast.tw15667345088766844465 hU p w 11 (Ya (.ref 6)) 12 (hS w os) (topStub p)
noncomputable def hSa(p:Y3)(w:aO)(os:OsState):Yf:=match RT p w os with|some x=>x.1|none=>hS w os
noncomputable def RV(p:Y3)(w:aO)(os:OsState):=Fast.tw14374325043358763698 hU p w 11 (Ya (.ref 6)) 1 1 (hSa p w os) (blockOf (behindTheImports p) (hV p) (hK p) hO hF)
noncomputable def RW(p:Y3)(w:aO)(os:OsState):SharedT:=match RV p w os with|some x=>hT x.2.1|none=>hT (hS w os)
noncomputable def RX(p:Y3)(n:Nat)(w:aO)(os:OsState):=Fast.tw10110043849684766642 hU p w 11 (Ya (.ref 6)) 1 n (RW p w os) (piecesOf (behindTheImports p) (hV p) (hK p) hO hF)
noncomputable def yH(p:Y3)(n:Nat)(w:aO)(os:OsState):SharedT:=match RX p n w os with|some x=>x.2.1|none=>RW p w os
noncomputable abbrev hSt(p q:Y3)(L:List aj)(X:Yf->Bool)(A:List Yq)(K:Params->Frag)(n:Nat)(z:aY)(w:aO):Prop:=∀os,(RT p w os,RV p w os,RX p n w os,
  (staticsOk (Fast.tw5923862056798008813 p.main.body) (boot_heap w.params) (yH p n w os).abs.heap&&namesBound p (yH p n w os).abs.heap&&gensDone (yH p n w os).abs&&laidKept (boot_heap w.params) (yH p n w os).abs.heap),
  Fast.tw4187177175401517315 q L (Fast.tw5923862056798008813 p.main.body) X true (yH p n w os).abs,A.map (yH p n w os).abs.heap.get?)=
 (Ya (hSa p w os,⟨Fast.tw11892475500146522536 hU (hK p),hK p,hO,hF⟩),Ya (.next,(RW p w os).abs,hK p,hO),Ya (.next,yH p n w os,hK p,z),true,openGood q L,(K w.params).map λp=>Ya p.2)
theorem Zng{q:Y3}{A:List Yq}{K:Params->Frag}{n N:Nat}{z:aY}(e:opening p=plainProg p.main.scope.names)(f:∀s,fenceModules? p s=Ya s)(hN:ir 600 N=true)(hl:ir (12+(1+(n+2))) N=true)(h:hSt p q L X A K n z w):
  (openEnds nF p w N).map (λs=>(openSeen q L (zc p.main.body) X true s,A.map s.heap.get?))=Ya (openGood q L,(K w.params).map λp=>Ya p.2):=by
 refine ZpG (boot_open e hN f _) (m:=11) (ann:=Ya (.ref 6)) (M:=12+(1+(n+2))) (by kernel_rfl) (λos=>?_) hl;have h:=h os;unfold RT RV RX hU at h;rw[←Fast.te15667345088766844465,←Fast.te14374325043358763698,←Fast.te10110043849684766642,←Fast.te14364793385576792824,←Fast.te5923862056798008813,←Fast.te4187177175401517315,←Fast.te11892475500146522536]at h;obtain⟨h1,h2,h3,h4,h5,h6⟩:=Zsv h;exact⟨_,ZrI h1 h2 h3,h4,h5,h6⟩
theorem ZrZ{q:Y3}{A:List Yq}{K:Params->Frag}{n N:Nat}{z:aY}(e:opening p=plainProg p.main.scope.names)(f:∀s,fenceModules? p s=Ya s)(hN:ir 600 N=true)(hl:ir (12+(1+(n+2))) N=true)(h0:∀w,hSt p q L X A K n z (hW w false))(h1:∀w,hSt p q L X A K n z (hW w true)):
  LeftO p q L X (λs=>A.map s.heap.get?) (λw=>(K w.params).map λp=>Ya p.2) N:=λw=>
 byRow2 "special-get-raises" (P:=λw=>(openEnds nF p w N).map (λs=>(openSeen q L (zc p.main.body) X true s,A.map s.heap.get?))=Ya (openGood q L,(K w.params).map λp=>Ya p.2)) (λw=>Zng e f hN hl (h0 w)) (λw=>Zng e f hN hl (h1 w)) w
end L3
namespace L3
open PySem PySem.Spec PyProof.Rows L2
set_option maxRecDepth 100000
noncomputable section
noncomputable def sG(x:List Nat):Bool:=x.all λc=>ir 97 c&&ir c 122
noncomputable def sH(o:D)(ds:List D)(M:Store):R3 D:=match o,ds with
 | .str x,[]=>if sG x=true/\x.length<=1000 then .ok (.str (x.map λc=>c-32)) M else .bad|_,_=>.bad
end
@[simp] theorem RZ{M:Store}(x:List Nat):sH (.str x) [] M=(if sG x=true/\x.length<=1000 then .ok (.str (x.map λc=>c-32)) M else .bad):=rfl
theorem Zsy:∀c:Nat,c<26->O8 (c+97)=[c+97-32]:=by decide +kernel
theorem Zq8:∀l:List Nat,((l.map λc=>#[c]).toArray).flatten=l.toArray
 |[]=>rfl|a::l=>by have h:=congrArg zM (Zq8 l);apply Om.mp;simp[Array.toList_flatten,Function.comp_def]at h ⊢;exact h
theorem ZoV{x:List Nat}(h:sG x=true):Txt.upper (⟨x.toArray⟩:aj)=⟨(x.map λc=>c-32).toArray⟩:=by
 suffices e:(⟨x.toArray⟩:aj).cps.mapIdx (λ(_ c:Nat)=>(O8 c).toArray)=((x.map λc=>c-32).map λc=>#[c]).toArray by show(⟨((⟨x.toArray⟩:aj).cps.mapIdx (λ(_ c:Nat)=>(O8 c).toArray)).flatten⟩:aj)=_;rw[e,Zq8]
 apply Om.mp;rw[Array.toList_mapIdx];apply Di;intro i;rw[List.getElem?_mapIdx];simp only[Dm,gO];cases hc:x[i]? with
 |none=>rfl|some c=>have q:=fB.mp h c (q8 hc);obtain⟨q1,q2⟩:=Yaj.mp q;have u:=Zsy (c-97) (by have:=kY q1;have:=kY q2;omega);rw[nQ (kY q1)]at u;simp[u]
section
variable {X:Cx} {o:Expr} {apos cpos:aY} {f:E3}
theorem m_upper:mQ X "str.upper" (rM X.K sH):=by
 intro pins s σ H x xs v us Q I rx rs h;obtain⟨ι,M,a,ds,S,ra,rd,h⟩:=h;cases a with
 | str z=>
  cases ds with
  |cons _ _=>exact h.elim|nil=>
   rw[RZ]at h;split at h
   .rename_i hz;have:=ra.str_inv;subst this;have:=rd.nil_inv;subst this;obtain⟨t,rfl⟩:=rx;cases rs;refine SC.upper ?_ ?_
    .rw[ZoV hz.1];have zl:=lY;have:(z.map λc=>c-32).length<=1000:=by rw[Yg];exact hz.2
     have:(z.map λc=>c-32).length<=bj:=Ym this (Ym (by decide) zl);unfold Oe;simp only[jW,Yl];exact decide_eq_false (Nat.not_lt.mpr this)
    .rw[ZoV hz.1];exact⟨.str _,H,I.tok _,⟨_,rfl⟩,Zw.ok h S Rep.str⟩
   .exact h.elim
 |_=>cases ds<;>exact h.elim
theorem ZfL(ho:C3 X o f)(hbase:oW o "upper" X.env (aF o X.env)=aF o X.env:=by rfl)(hline:(apos.endLine==cpos.line)=true:=by rfl):C3 X (.Call (.Attribute o "upper" apos) [] [] cpos) (aZ bC sH f Zf):=(ZrL Iz PySem.F.slot_str_upper PySem.F.type_str_upper m_upper ho hbase hline).imp (Zqp J8)
end
end L3
set_option maxHeartbeats 4000000
namespace Law
open PySem L3
noncomputable section
def p8:E3:=eC (.int 8)
def sW:E3:=eC (.str [48,49,50,51,52,53,54,55,56,57])
def di:qK:=[([112,117,116],[[98,111,120],[110,117,109,98,101,114]]),([97,100,100],[[98,111,120],[98,111,120],[98,111,120]]),([115,117,98],[[98,111,120],[98,111,120],[98,111,120]]),([109,111,114,101],[[98,111,120],[98,111,120],[98,111,120]]),([103,101,116],[[98,111,120],[98,111,120]]),([115,101,116],[[98,111,120],[98,111,120]]),([106,117,109,112],[[114,111,119]]),([119,104,101,110],[[98,111,120],[114,111,119]]),([116,101,108,108],[[98,111,120]]),([104,97,108,116],[])]
def nC:E3:=eC (.int 60)
def Fv:S3:=Zo (aD 1 (um (aZ bC pJ (Zb 0) (Za (eC (.str [45])) (Zf))) (aW (Zb 0) (aN (eC (.int 1))) (aV)) (Zb 0))) (Zo (aJ (jh (e2 qy (Zx a_ (Za (Zb 1) (Zf))) (eC (.int 1))) (e2 eX (Zx a_ (Za (Zb 1) (Zf))) (nC))) (aK (eC (.bl false))) (aU)) (Zo (aJ (aZ bC pJ (Zb 1) (Za (eC (.str [48])) (Zf))) (aK (e2 bh (Zb 0) (eC (.str [48])))) (aU)) (aK (Zx Af (Za (mU (iK (Zb 1)) 1 (fO 2) [] (e2 jy (Zb 2) (sW))) (Zf))))))
def pY:F3:=dB 1 2 Fv
def R0:S3:=aK (cT (e2 Qq (Zb 0) (eC (.int 0))) (e2 qy (Zb 0) (Zb 1)))
def mC:F3:=dB 2 2 R0
def yI:S3:=Zo (aD 1 (aZ bC mY (Zb 0) (Za (eC (.str [32])) (Zf)))) (Zo (aD 2 (e1 (v9 di) (e2 aM (Zb 1) (eC (.int 0))))) (Zo (aJ (jh (e2 pH (Zb 2) (eC .non)) (e2 dg (Zx a_ (Za (Zb 1) (Zf))) (e2 Zk (Zx a_ (Za (Zb 2) (Zf))) (eC (.int 1))))) (aK (eC .non)) (aU)) (Zo (aD 3 (bA (Za (e2 aM (Zb 1) (eC (.int 0))) (Zf)))) (Zo (yc (pN (Zb 2) (aW (Zb 1) (aN (eC (.int 1))) (aV))) (ou [4,5]) (Zo (aJ (e1 gW (aR pY (Za (Zb 5) (Zf)))) (aK (eC .non)) (aU)) (Zo (aD 6 (Zx lW (Za (Zb 5) (Zf)))) (Zo (aJ (cT (e2 bh (Zb 4) (eC (.str [98,111,120]))) (e1 gW (aR mC (Za (Zb 6) (Za (p8) (Zf)))))) (aK (eC .non)) (aU)) (fG (aZ j7 pK (Zb 3) (Za (Zb 6) (Zf)))))))) (aK (Zx uq (Za (Zb 3) (Zf))))))))
def uM:F3:=dB 1 7 yI
def Fw:S3:=Zo (aJ (mZ (e2 Et (e2 aM (e2 aM (Zb 0) (e1 pG (eC (.int 1)))) (eC (.int 0))) (n6 (Za (eC (.str [104,97,108,116])) (Za (eC (.str [106,117,109,112])) (Zf)))))) (uz [78,111,82,111,108,108] (Za (eC (.str [116,104,101,32,108,97,115,116,32,114,111,119,32,105,115,32,110,101,105,116,104,101,114,32,97,32,104,97,108,116,32,110,111,114,32,97,32,106,117,109,112])) (Zf))) (fH (aU))) (Am (iK (Zb 0)) (fO 1) (qJ (pN (e1 (uD di) (e2 aM (Zb 1) (eC (.int 0)))) (aW (Zb 1) (aN (eC (.int 1))) (aV))) (ou [2,3]) (aJ (mZ (cT (e2 bh (Zb 2) (eC (.str [114,111,119]))) (e1 gW (aR mC (Za (Zb 3) (Za (Zx a_ (Za (Zb 0) (Zf))) (Zf))))))) (uz [78,111,82,111,108,108] (Za (yF "there is no row " " to go on to" (Zb 3)) (Zf))) (fH (aU)))))
def wH:F3:=dB 1 4 Fw
def Fx:S3:=Zo (fH (aD 1 (bA (Zf)))) (Zo (qJ (Ao (aZ bC mY (Zb 0) (Za (eC (.str [10])) (Zf)))) (ou [2,3]) (Zo (fH (aD 4 (aR uM (Za (Zb 3) (Zf))))) (Zo (aJ (mZ (e2 pH (Zb 4) (eC .non))) (yD [66,97,100,82,111,119] [114,111,119] (Za (Zb 2) (Zf))) (fH (aU))) (fH (fG (aZ j7 pK (Zb 1) (Za (Zb 4) (Zf)))))))) (Zo (fG (aR wH (uy (Za (Zb 1) (Zf))))) (fH (aK (Zx uq (Za (Zb 1) (Zf)))))))
def uN:F3:=dB 1 5 Fx
def Ks:S3:=Zo (aJ (e2 qy (Zb 1) (Zx a_ (Za (Zb 0) (Zf)))) (aK (e2 aM (Zb 0) (Zb 1))) (aU)) (aK (eC (.int 0)))
def Zz:F3:=dB 2 2 Ks
def R4:S3:=aK (e2 aQ (e2 cZ (e2 Zk (e2 aQ (Zb 0) (eC (.int 1000003))) (eC (.int 7))) (e2 Zk (eC (.int 48271)) (e2 cZ (e2 cZ (eC (.int 6007)) (Zb 1)) (Zb 1)))) (eC (.int 2147483629)))
def Fy:F3:=dB 2 2 R4
def R5:S3:=Zo (aD 1 (eC (.int 0))) (Zo (v6 (xY (e2 aQ (Zb 0) (eC (.int 7)))) (fO 2) (aD 1 (e2 Zk (e2 cZ (Zb 1) (e2 vW (eC (.int 10)) (eC (.int 10)))) (e2 cZ (aR Fy (Za (e2 bD (Zb 0) (eC (.int 7))) (Za (Zb 2) (Zf)))) (eC (.int 5)))))) (Zo (aD 1 (e2 aQ (Zb 1) (e2 vW (eC (.int 10)) (eC (.int 60))))) (Zo (aJ (e2 bh (e2 aQ (e2 bD (Zb 0) (eC (.int 7))) (eC (.int 2))) (eC (.int 1))) (aD 1 (e1 pG (Zb 1))) (aU)) (Zo (aJ (e2 bh (e2 aQ (e2 bD (Zb 0) (eC (.int 14))) (eC (.int 4))) (eC (.int 1))) (aD 1 (e2 dY (e2 aQ (e2 bD (Zb 0) (eC (.int 56))) (eC (.int 21))) (eC (.int 10)))) (aU)) (aK (Zb 1))))))
def Bp:F3:=dB 1 3 R5
def Ku:S3:=Zo (aD 2 (bA (Za (eC (.str [112,117,116])) (Za (eC (.str [112,117,116])) (Za (eC (.str [97,100,100])) (Za (eC (.str [115,117,98])) (Za (eC (.str [109,111,114,101])) (Za (eC (.str [103,101,116])) (Za (eC (.str [115,101,116])) (Za (eC (.str [106,117,109,112])) (Za (eC (.str [119,104,101,110])) (Za (eC (.str [116,101,108,108])) (Za (eC (.str [104,97,108,116])) (Zf)))))))))))))) (Zo (aD 3 (e2 aM (Zb 2) (e2 aQ (Zb 0) (eC (.int 11))))) (Zo (aD 4 (e2 bD (Zb 0) (eC (.int 11)))) (Zo (aD 5 (bA (Za (e2 aQ (Zb 4) (eC (.int 8))) (Za (e2 aQ (e2 bD (Zb 4) (eC (.int 8))) (eC (.int 8))) (Za (e2 aQ (e2 bD (Zb 4) (eC (.int 64))) (eC (.int 8))) (Zf)))))) (Zo (aJ (e2 bh (Zb 3) (eC (.str [112,117,116]))) (aK (e2 Zk (e2 Zk (e2 Zk (e2 Zk (Zb 3) (eC (.str [32]))) (Zx dR (Za (e2 aM (Zb 5) (eC (.int 0))) (Zf)))) (eC (.str [32]))) (Zx dR (Za (aR Bp (Za (e2 bD (Zb 4) (eC (.int 8))) (Zf))) (Zf))))) (aU)) (Zo (aJ (e2 bh (Zb 3) (eC (.str [106,117,109,112]))) (aK (e2 Zk (e2 Zk (Zb 3) (eC (.str [32]))) (Zx dR (Za (e2 aQ (Zb 4) (Zb 1)) (Zf))))) (aU)) (Zo (aJ (e2 bh (Zb 3) (eC (.str [119,104,101,110]))) (aK (e2 Zk (e2 Zk (e2 Zk (e2 Zk (Zb 3) (eC (.str [32]))) (Zx dR (Za (e2 aM (Zb 5) (eC (.int 0))) (Zf)))) (eC (.str [32]))) (Zx dR (Za (e2 aQ (e2 bD (Zb 4) (eC (.int 8))) (Zb 1)) (Zf))))) (aU)) (Zo (aD 6 (v5 (bK (eC (.str [97,100,100])) (eC (.int 3)) (bK (eC (.str [115,117,98])) (eC (.int 3)) (bK (eC (.str [109,111,114,101])) (eC (.int 3)) (bK (eC (.str [103,101,116])) (eC (.int 2)) (bK (eC (.str [115,101,116])) (eC (.int 2)) (bK (eC (.str [116,101,108,108])) (eC (.int 1)) (bK (eC (.str [104,97,108,116])) (eC (.int 0)) (v4)))))))))) (aK (aZ bC dZ (eC (.str [32])) (Za (e2 Zk (bA (Za (Zb 3) (Zf))) (mU (iK (aW (Zb 5) (aV) (aN (e2 pI (Zb 6) (Zb 3))))) 1 (fO 7) [] (Zx dR (Za (Zb 7) (Zf))))) (Zf)))))))))))
def pZ:F3:=dB 2 7 Ku
def R6:S3:=Zo (aD 2 (aW (Zb 0) (aN (eC (.int 3))) (aN (eC (.int 43))))) (Zo (aD 3 (e2 Zk (Zx a_ (Za (Zb 2) (Zf))) (eC (.int 1)))) (Zo (aD 4 (Zb 3)) (Zo (aJ (e2 bh (Zb 1) (eC (.int 1))) (aD 4 (e2 Zk (Zb 3) (eC (.int 2)))) (aU)) (Zo (aD 5 (e2 aM (bA (Za (eC (.str [104,97,108,116])) (Za (e2 Zk (eC (.str [106,117,109,112,32])) (Zx dR (Za (e2 aQ (e2 cZ (Zb 1) (eC (.int 7))) (Zb 3)) (Zf)))) (Za (eC (.str [116,101,108,108,32,51])) (Zf))))) (e2 aQ (Zb 1) (eC (.int 3))))) (aK (e2 Zk (mU (iK (Zb 2)) 1 (fO 6) [] (aR pZ (Za (Zb 6) (Za (Zb 4) (Zf))))) (bA (Za (Zb 5) (Zf)))))))))
def Fz:F3:=dB 2 6 R6
def Kv:S3:=Zo (aD 2 (eC (.str [97,98,99,100,101,102,103,104,105,106,107,108,109,110,111,112,113,114,115,116,117,118,119,120,121,122,65,49,45,95]))) (Zo (aD 3 (bA (Za (eC (.str [109,117,108])) (Za (eC (.str [100,105,118])) (Za (eC (.str [103,111,116,111])) (Za (eC (.str [115,116,111,112])) (Za (eC (.str [112,114,105,110,116])) (Za (eC (.str [108,101,115,115])) (Za (eC (.str [105,102])) (Za (eC (.str [101,110,100])) (Za (eC (.str [99,101,108,108])) (Za (eC (.str [55])) (Za (aZ bC sH (Zb 0) (Zf)) (Za (e2 Zk (Zb 0) (eC (.str [115]))) (Zf))))))))))))))) (Zo (aD 4 (e2 aM (Zb 2) (e2 aQ (e2 bD (Zb 1) (eC (.int 5))) (eC (.int 30))))) (Zo (aD 5 (e2 aQ (e2 bD (Zb 1) (eC (.int 150))) (Zx a_ (Za (Zb 0) (Zf))))) (Zo (aD 6 (e2 Zk (aW (Zb 0) (aV) (aN (Zb 5))) (aW (Zb 0) (aN (e2 Zk (Zb 5) (eC (.int 1)))) (aV)))) (Zo (aJ (e2 bh (e2 aQ (Zb 1) (eC (.int 5))) (eC (.int 1))) (aD 6 (e2 Zk (e2 Zk (aW (Zb 0) (aV) (aN (Zb 5))) (Zb 4)) (aW (Zb 0) (aN (e2 Zk (Zb 5) (eC (.int 1)))) (aV)))) (aU)) (Zo (aJ (e2 bh (e2 aQ (Zb 1) (eC (.int 5))) (eC (.int 2))) (aD 6 (e2 Zk (e2 Zk (aW (Zb 0) (aV) (aN (Zb 5))) (Zb 4)) (aW (Zb 0) (aN (Zb 5)) (aV)))) (aU)) (Zo (aJ (e2 eX (e2 aQ (Zb 1) (eC (.int 5))) (eC (.int 2))) (aD 6 (e2 aM (Zb 3) (e2 aQ (e2 bD (Zb 1) (eC (.int 5))) (eC (.int 12))))) (aU)) (Zo (aJ (e2 jy (Zb 6) (n6 (Za (eC (.str [112,117,116])) (Za (eC (.str [97,100,100])) (Za (eC (.str [115,117,98])) (Za (eC (.str [109,111,114,101])) (Za (eC (.str [103,101,116])) (Za (eC (.str [115,101,116])) (Za (eC (.str [106,117,109,112])) (Za (eC (.str [119,104,101,110])) (Za (eC (.str [116,101,108,108])) (Za (eC (.str [104,97,108,116])) (Zf))))))))))))) (aK (e2 Zk (Zb 6) (eC (.str [120])))) (aU)) (aK (Zb 6))))))))))
def Bq:F3:=dB 2 7 Kv
def R7:S3:=Zo (aD 2 (bA (Za (e2 Zk (eC (.str [48])) (Zb 0)) (Za (e2 Zk (eC (.str [43])) (Zb 0)) (Za (eC (.str [45,48])) (Za (eC (.str [48,48])) (Za (eC (.str [49,95,48])) (Za (eC (.str [97])) (Za (e2 Zk (Zb 0) (eC (.str [97]))) (Za (e2 Zk (Zb 0) (eC (.str [46]))) (Za (e2 cZ (eC (.str [57])) (eC (.int 61))) (Za (eC (.str [45,45,49])) (Za (eC (.str [48,120,49])) (Zf)))))))))))))) (aK (e2 aM (e2 Zk (Zb 2) (bA (Za (e2 Zk (eC (.str [45])) (e2 cZ (eC (.str [49])) (eC (.int 61)))) (Za (e2 Zk (eC (.str [45,48])) (Zb 0)) (Zf))))) (e2 aQ (Zb 1) (eC (.int 13)))))
def yJ:F3:=dB 2 3 R7
def R8:S3:=Zo (aD 2 (aZ bC mY (Zb 0) (Za (eC (.str [32])) (Zf)))) (Zo (aD 3 (e2 aQ (Zb 1) (eC (.int 12)))) (Zo (aD 4 (e2 bD (Zb 1) (eC (.int 12)))) (Zo (aD 5 (e2 Zk (eC (.int 1)) (e2 aQ (Zb 4) (Zx qH (Za (eC (.int 1)) (Za (e2 dY (Zx a_ (Za (Zb 2) (Zf))) (eC (.int 1))) (Zf))))))) (Zo (aJ (e2 bh (Zb 3) (eC (.int 0))) (aK (e2 Zk (Zb 0) (e2 aM (bA (Za (eC (.str [32,48])) (Za (eC (.str [32,55])) (Za (eC (.str [32,49,32,50])) (Za (eC (.str [32,59,32,116,104,101,32,101,110,100])) (Za (eC (.str [32,35])) (Za (eC (.str [32,104,97,108,116])) (Za (eC (.str [32,45,49,32,53,32,54])) (Zf))))))))) (e2 aQ (Zb 4) (eC (.int 7)))))) (aU)) (Zo (aJ (e2 bh (Zb 3) (eC (.int 1))) (aK (aZ bC dZ (eC (.str [32])) (Za (aW (Zb 2) (aV) (aN (Zx qH (Za (e2 dY (e2 dY (Zx a_ (Za (Zb 2) (Zf))) (eC (.int 1))) (e2 aQ (Zb 4) (eC (.int 3)))) (Za (Zx lW (Za (e2 eX (Zx a_ (Za (Zb 2) (Zf))) (eC (.int 1))) (Zf))) (Zf)))))) (Zf)))) (aU)) (Zo (aJ (e2 bh (Zb 3) (eC (.int 2))) (aK (aZ bC dZ (eC (.str [32])) (Za (e2 Zk (bA (Za (aR Bq (Za (e2 aM (Zb 2) (eC (.int 0))) (Za (Zb 4) (Zf)))) (Zf))) (aW (Zb 2) (aN (eC (.int 1))) (aV))) (Zf)))) (aU)) (Zo (aJ (e2 bh (Zb 3) (eC (.int 3))) (aK (aZ bC dZ (eC (.str [32])) (Za (e2 Zk (bA (Za (e2 Zk (aZ bC sH (aW (e2 aM (Zb 2) (eC (.int 0))) (aV) (aN (eC (.int 1)))) (Zf)) (aW (e2 aM (Zb 2) (eC (.int 0))) (aN (eC (.int 1))) (aV))) (Zf))) (aW (Zb 2) (aN (eC (.int 1))) (aV))) (Zf)))) (aU)) (Zo (aJ (cT (e2 bh (Zb 3) (eC (.int 4))) (cT (e2 eX (Zx a_ (Za (Zb 2) (Zf))) (eC (.int 1))) (e2 dg (e2 aM (Zb 2) (eC (.int 0))) (eC (.str [106,117,109,112]))))) (Zo (aD 6 (e2 pI (v5 (bK (eC (.str [112,117,116])) (eC (.int 1)) (bK (eC (.str [97,100,100])) (eC (.int 3)) (bK (eC (.str [115,117,98])) (eC (.int 3)) (bK (eC (.str [109,111,114,101])) (eC (.int 3)) (bK (eC (.str [103,101,116])) (eC (.int 2)) (bK (eC (.str [115,101,116])) (eC (.int 2)) (bK (eC (.str [119,104,101,110])) (eC (.int 1)) (bK (eC (.str [116,101,108,108])) (eC (.int 1)) (v4)))))))))) (e2 aM (Zb 2) (eC (.int 0))))) (Zo (aD 7 (e2 Zk (eC (.int 1)) (e2 aQ (e2 bD (Zb 4) (eC (.int 5))) (Zb 6)))) (Zo (aD 8 (e2 aQ (e2 bD (Zb 4) (eC (.int 15))) (e2 vW (eC (.int 10)) (eC (.int 50))))) (Zo (aD 9 (e2 aM (bA (Za (eC (.str [56])) (Za (eC (.str [45,49])) (Za (e2 cZ (eC (.str [57])) (eC (.int 60))) (Za (Zx dR (Za (e2 Zk (eC (.int 8)) (Zb 8)) (Zf))) (Za (Zx dR (Za (e2 dY (e1 pG (eC (.int 1))) (Zb 8)) (Zf))) (Zf))))))) (e2 aQ (Zb 4) (eC (.int 5))))) (aK (aZ bC dZ (eC (.str [32])) (Za (e2 Zk (e2 Zk (aW (Zb 2) (aV) (aN (Zb 7))) (bA (Za (Zb 9) (Zf)))) (aW (Zb 2) (aN (e2 Zk (Zb 7) (eC (.int 1)))) (aV))) (Zf)))))))) (aU)) (Zo (aJ (cT (e2 jy (Zb 3) (n6 (Za (eC (.int 5)) (Za (eC (.int 6)) (Za (eC (.int 7)) (Zf)))))) (e2 eX (Zx a_ (Za (Zb 2) (Zf))) (eC (.int 1)))) (aK (aZ bC dZ (eC (.str [32])) (Za (e2 Zk (e2 Zk (aW (Zb 2) (aV) (aN (Zb 5))) (bA (Za (aR yJ (Za (e2 aM (Zb 2) (Zb 5)) (Za (e2 bD (Zb 4) (eC (.int 5))) (Zf)))) (Zf)))) (aW (Zb 2) (aN (e2 Zk (Zb 5) (eC (.int 1)))) (aV))) (Zf)))) (aU)) (Zo (aJ (e2 bh (Zb 3) (eC (.int 8))) (aK (e2 Zk (eC (.str [32])) (Zb 0))) (aU)) (Zo (aJ (e2 bh (Zb 3) (eC (.int 9))) (aK (e2 Zk (Zb 0) (eC (.str [32])))) (aU)) (Zo (aJ (cT (e2 bh (Zb 3) (eC (.int 10))) (e2 eX (Zx a_ (Za (Zb 2) (Zf))) (eC (.int 1)))) (aK (aZ bC dZ (eC (.str [32])) (Za (e2 Zk (e2 Zk (aW (Zb 2) (aV) (aN (Zb 5))) (bA (Za (eC (.str [])) (Zf)))) (aW (Zb 2) (aN (Zb 5)) (aV))) (Zf)))) (aU)) (aK (e2 aM (bA (Za (eC (.str [])) (Za (eC (.str [])) (Za (eC (.str [32])) (Za (eC (.str [32,32])) (Zf)))))) (e2 aQ (Zb 4) (eC (.int 4)))))))))))))))))
def yK:F3:=dB 2 10 R8
def Kw:S3:=Zo (aD 1 (eC .non)) (Zo (yd [[66,97,100,82,111,119],[78,111,82,111,108,108]] 2 (fG (aR uN (uy (Za (Zb 0) (Zf))))) (aD 1 (Zb 2))) (Zo (aJ (e2 pH (Zb 1) (eC .non)) (aK (bA (Za (eC (.int 0)) (Za (eC (.int 0)) (Zf))))) (aU)) (Zo (aD 3 (bA (Za (e1 (iR [] [[66,97,100,82,111,119],[78,111,82,111,108,108]]) (Zb 1)) (Za (e1 (iR [] [[66,97,100,82,111,119],[78,111,82,111,108,108]]) (Zb 1)) (Za (e1 (iR [] [[66,97,100,82,111,119],[78,111,82,111,108,108]]) (Zb 1)) (Zf)))))) (Zo (aD 3 (e2 Zk (Zb 3) (bA (Za (e1 (iR [] [[66,97,100,82,111,119],[78,111,82,111,108,108]]) (Zb 1)) (Za (e1 (iR [] [[66,97,100,82,111,119],[78,111,82,111,108,108]]) (Zb 1)) (Za (e1 (iR [] [[66,97,100,82,111,119],[78,111,82,111,108,108]]) (Zb 1)) (Zf))))))) (Zo (aJ (jh (Zx RN (Za (Zb 3) (Zf))) (e1 gW (e1 (iR [[66,97,100,82,111,119],[78,111,82,111,108,108]] []) (Zb 1)))) (aK (bA (Za (e1 pG (eC (.int 1))) (Za (eC (.int 0)) (Zf))))) (aU)) (Zo (aJ (e2 bh (e1 (iR [[66,97,100,82,111,119]] [[78,111,82,111,108,108]]) (Zb 1)) (e1 (iR [[78,111,82,111,108,108]] [[66,97,100,82,111,119]]) (Zb 1))) (aK (bA (Za (e1 pG (eC (.int 1))) (Za (eC (.int 0)) (Zf))))) (aU)) (Zo (aJ (e1 (iR [[78,111,82,111,108,108]] [[66,97,100,82,111,119]]) (Zb 1)) (aK (bA (Za (eC (.int 1)) (Za (eC (.int 0)) (Zf))))) (aU)) (Zo (aJ (jh (e1 gW (e1 (xW .int) (e1 (qT [66,97,100,82,111,119] [114,111,119]) (Zb 1)))) (e1 (xW .bool) (e1 (qT [66,97,100,82,111,119] [114,111,119]) (Zb 1)))) (aK (bA (Za (e1 pG (eC (.int 1))) (Za (eC (.int 0)) (Zf))))) (aU)) (aK (bA (Za (eC (.int 2)) (Za (e1 (qT [66,97,100,82,111,119] [114,111,119]) (Zb 1)) (Zf)))))))))))))
def nq:F3:=dB 1 4 Kw
def R9:S3:=Zo (aD 1 (e2 aQ (aR Zz (Za (Zb 0) (Za (eC (.int 0)) (Zf)))) (eC (.int 3)))) (Zo (aD 2 (aR Fz (Za (Zb 0) (Za (Zb 1) (Zf))))) (Zo (aD 3 (aR nq (Za (aZ bC dZ (eC (.str [10])) (Za (Zb 2) (Zf))) (Zf)))) (Zo (aJ (jh (cT (e2 bh (Zb 1) (eC (.int 0))) (e2 dg (Zb 3) (bA (Za (eC (.int 0)) (Za (eC (.int 0)) (Zf)))))) (cT (e2 bh (Zb 1) (eC (.int 2))) (e2 dg (Zb 3) (bA (Za (eC (.int 1)) (Za (eC (.int 0)) (Zf))))))) (aK (eC (.bl false))) (aU)) (Zo (aJ (cT (e2 dg (e2 aM (Zb 3) (eC (.int 0))) (eC (.int 0))) (e2 dg (e2 aM (Zb 3) (eC (.int 0))) (eC (.int 1)))) (aK (eC (.bl false))) (aU)) (Zo (aD 4 (Zx a_ (Za (Zb 2) (Zf)))) (Zo (aD 5 (Zx Ad (Za (Zb 2) (Zf)))) (Zo (v6 (xY (e2 Zk (eC (.int 1)) (e2 aQ (aR Zz (Za (Zb 0) (Za (eC (.int 1)) (Zf)))) (eC (.int 3))))) (fO 6) (Zo (aD 7 (e2 Zk (e2 bD (aR Zz (Za (Zb 0) (Za (eC (.int 1)) (Zf)))) (eC (.int 3))) (e2 cZ (Zb 6) (Zb 6)))) (Zo (aD 7 (e2 Zk (Zb 7) (e2 bD (aR Zz (Za (Zb 0) (Za (eC (.int 2)) (Zf)))) (e2 Zk (eC (.int 1)) (e2 cZ (eC (.int 7)) (Zb 6)))))) (Zo (aD 8 (e2 aQ (Zb 7) (Zx a_ (Za (Zb 2) (Zf))))) (Zo (Ai (Zb 5) (Zb 8) (aR yK (Za (e2 aM (Zb 2) (Zb 8)) (Za (e2 bD (Zb 7) (Zx a_ (Za (Zb 2) (Zf)))) (Zf))))) (aD 4 (Zx qI (Za (Zb 4) (Za (Zb 8) (Zf)))))))))) (Zo (aD 9 (aZ bC dZ (eC (.str [10])) (Za (Zb 5) (Zf)))) (Zo (aJ (cT (e2 eX (Zx a_ (Za (Zb 2) (Zf))) (eC (.int 1))) (e2 bh (e2 aQ (aR Zz (Za (Zb 0) (Za (eC (.int 2)) (Zf)))) (eC (.int 5))) (eC (.int 1)))) (Zo (aD 8 (e2 aQ (e2 bD (aR Zz (Za (Zb 0) (Za (eC (.int 2)) (Zf)))) (eC (.int 5))) (e2 dY (Zx a_ (Za (Zb 2) (Zf))) (eC (.int 1))))) (Zo (aD 4 (Zx qI (Za (Zb 4) (Za (Zb 8) (Zf))))) (Zo (Ai (Zb 5) (Zb 8) (e2 Zk (e2 Zk (e2 aM (Zb 2) (Zb 8)) (eC (.str [32]))) (e2 aM (Zb 2) (e2 Zk (Zb 8) (eC (.int 1)))))) (Zo (fG (aZ j7 xX (Zb 5) (Za (e2 Zk (Zb 8) (eC (.int 1))) (Zf)))) (aD 9 (aZ bC dZ (eC (.str [10])) (Za (Zb 5) (Zf)))))))) (aU)) (Zo (aJ (jh (e2 dg (aR nq (Za (Zb 9) (Zf))) (bA (Za (eC (.int 2)) (Za (e2 Zk (Zb 4) (eC (.int 1))) (Zf))))) (e2 dg (e1 (qT [66,97,100,82,111,119] [114,111,119]) (yG [66,97,100,82,111,119] [114,111,119] Ft (Za (e2 Zk (Zb 4) (eC (.int 7))) (Zf)))) (e2 Zk (Zb 4) (eC (.int 7))))) (aK (eC (.bl false))) (aU)) (aK (e2 bh (aR nq (Za (aZ bC dZ (eC (.str [10])) (Za (Zb 2) (Zf))) (Zf))) (Zb 3)))))))))))))
def ZlC:F3:=dB 1 10 R9
end
end Law
namespace Law
open PySem PySem.Spec PyProof.Rows L2 L3
theorem kj{N P:List aj}{sc:Scope}(a:sc.kind= .function:=by rfl)(b:sc.isCoroutine=false:=by rfl)(c:sc.isGenerator=false:=by rfl)(d:N.Nodup:=by decide +kernel)(e:N.take P.length=P:=by rfl)(f:∀x∈P,sc.names.lookup x=Ya .local\/sc.names.lookup x=Ya .cell:=by decide +kernel)(g:∀y∈sc.names,y.2≠ .free:=by decide +kernel):eU N P sc:=⟨a,b,c,d,e,f,g⟩
noncomputable def top(i:Nat):Yd2:=PySem.Challenge.pw_stepledger_k03_bad_row.main.body.getD i (.Pass ⟨0,0,0,0⟩)
noncomputable abbrev Br:Yd2:=top 15
noncomputable abbrev Bs:Yd2:=top 16
noncomputable abbrev Bu:Yd2:=top 17
noncomputable abbrev Bv:Yd2:=top 18
noncomputable abbrev Bw:Yd2:=top 19
noncomputable abbrev Bx:Yd2:=top 21
noncomputable abbrev BJ:Yd2:=top 22
noncomputable abbrev BK:Yd2:=top 23
noncomputable abbrev BP:Yd2:=top 24
noncomputable abbrev BR:Yd2:=top 25
noncomputable abbrev BW:Yd2:=top 26
noncomputable abbrev BX:Yd2:=top 27
noncomputable abbrev BZ:Yd2:=top 28
noncomputable abbrev B_:Yd2:=top 29
noncomputable abbrev uO:Yd2:=top 30
noncomputable abbrev wI:Yd2:=(ZpQ (top 8)).getD 0 (.Pass ⟨0,0,0,0⟩)
structure yL(K:u5)(mg:aj->Option Yd)(cX gF gD bH gC bW gG gH gJ jq:Yq):Prop where
  K6:mg "LedgerError" =Ya (.ref cX)
  AbV:mg "BadCut" =Ya (.ref gF)
  Abj:mg "BadGiven" =Ya (.ref gD)
  Mh:mg "BadRow" =Ya (.ref bH)
  Aa7:mg "NoDispute" =Ya (.ref gC)
  Gv:mg "NoRoll" =Ya (.ref bW)
  AbW:mg "NoTime" =Ya (.ref gG)
  AcO:mg "Spent" =Ya (.ref gH)
  AcP:mg "Unfit" =Ya (.ref gJ)
  uX:Kq K [66,97,100,82,111,119] bH cX jq "row" "BadRow.__init__" wI ["self","row"]
  TV:ZjN K [78,111,82,111,108,108] bW
  Gx:RM K [66,97,100,82,111,119] bH (nm [114,111,119])
  Aa4:∀c C,([[66,97,100,82,111,119],[78,111,82,111,108,108]]:List (List Nat)).contains c=true->ClsAt K c C->G4 K (.ref C) (.ref cX)=Ya true
  TX:oE K [[78,111,82,111,108,108]] [[66,97,100,82,111,119]] [.ref bW]
  AcQ:oE K [[66,97,100,82,111,119]] [[78,111,82,111,108,108]] [.ref bH]
  Aa8:oE K [[66,97,100,82,111,119],[78,111,82,111,108,108]] [] [.type "ValueError"]
  Ac1:oE K [] [[66,97,100,82,111,119],[78,111,82,111,108,108]] [.ref gJ]
  Ac2:oE K [] [[66,97,100,82,111,119],[78,111,82,111,108,108]] [.ref gH]
  AcR:oE K [] [[66,97,100,82,111,119],[78,111,82,111,108,108]] [.ref gG]
  Abk:oE K [] [[66,97,100,82,111,119],[78,111,82,111,108,108]] [.ref gC]
  AbQ:oE K [] [[66,97,100,82,111,119],[78,111,82,111,108,108]] [.ref gD]
  AcS:oE K [] [[66,97,100,82,111,119],[78,111,82,111,108,108]] [.ref gF]
theorem Zdr:eU ["self","row"] ["self","row"] (Zv wI):=kj
variable{gF gD bH cX gC bW gG gH gJ jq:Yq}
theorem ZkQ{P:Y3}{w:aO}{K:u5}{mg:aj->Option Yd}{base:aq}(XO:yL K mg cX gF gD bH gC bW gG gH gJ jq):Zl2 P w K mg base bH jq "row" ["self","row"] okN:=by obtain⟨fd,F,b⟩:=XO.uX.fn;exact⟨fd,b,fnV (k:=0) F Zdr rfl λcdv A outer s H E hr=>⟨_,Jm (Jp (Zlf XO.uX.own XO.K6 (uh (uc (i:=0) rfl (Or.inl rfl)) (uh (Zlj (uc (i:=1) rfl (Or.inl rfl))) El)))) (Jo (ZqD XO.uX.own (uc (i:=0) rfl (Or.inl rfl)) (uc (i:=1) rfl (Or.inl rfl)))),λD e y hi he hq=>ZuB rfl hi he hq⟩⟩
theorem Zku{P:Y3}{w:aO}{K:u5}{mg:aj->Option Yd}{base:aq}(XO:yL K mg cX gF gD bH gC bW gG gH gJ jq):Znh P w K mg base bH jq "row" ["self","row"]:=by obtain⟨fd,F,b⟩:=XO.uX.fn;exact⟨fd,b,fnI (k:=0) F Zdr rfl λcdv A outer s H E hr=>⟨_,Jm (Jp (Zlf XO.uX.own XO.K6 (uh (uc (i:=0) rfl (Or.inl rfl)) (uh (Zlj (uc (i:=1) rfl (Or.inl rfl))) El)))) (Jo (Zp8 XO.uX.own (uc (i:=0) rfl (Or.inl rfl)) (uc (i:=1) rfl (Or.inl rfl)))),λD e i hi he hq=>ZtY rfl hi he hq⟩⟩
structure Txt(K:u5)(mg:aj->Option Yd):Prop where
  vM:True
  Aa9:mg "ValueError" =Ye
  Adk:mg "all" =Ye
  Adl:mg "any" =Ye
  Adc:mg "bool" =Ye
  Abl:mg "enumerate" =Ye
  Mr:mg "int" =Ye
  oO:mg "isinstance" =Ye
  iZ:mg "len" =Ye
  Ade:mg "list" =Ye
  Uc:mg "max" =Ye
  Ud:mg "min" =Ye
  T7:mg "range" =Ye
  tu:mg "str" =Ye
  T8:mg "tuple" =Ye
  Ue:mg "zip" =Ye
  p8:∃t,mg "BOXES" =Ya (.int 8 t)
  sW:∃t,mg "FIGURES" =Ya (.str "0123456789" t)
  T9:∃a,mg "FORMS" =Ya (.ref a)/\wD K a di
  nC:∃t,mg "MOST_FIGURES" =Ya (.int 60 t)
variable{pos:aY}{X:Cx}
theorem ZoC(T:Txt X.K X.mg)(hg:Gl X "BOXES":=by rfl):C3 X (.Name "BOXES" pos) p8:=by obtain⟨t,e⟩:=T.p8;exact QS (v:=.int 8) e ⟨t,rfl⟩ (λ_ _=>Rep.int) hg
theorem ZkH(T:Txt X.K X.mg)(hg:Gl X "FIGURES":=by rfl):C3 X (.Name "FIGURES" pos) sW:=by obtain⟨t,e⟩:=T.sW;refine QS (v:=.str ⟨([48,49,50,51,52,53,54,55,56,57]:List Nat).toArray⟩) e ⟨t,?_⟩ (λ_ _=>Rep.str) hg;exact congrArg (λz=>Value.str z t) (by decide +kernel)
theorem Zmx{e:Expr}{npos apos cpos:aY}{g:E3}(T:Txt X.K X.mg)(he:C3 X e g)(m:M1 X (.Name "FORMS" npos) "get" apos e cpos:=by exact⟨rfl,rfl,rfl,rfl⟩)(hg:Gl X "FORMS":=by rfl):C3 X (.Call (.Attribute (.Name "FORMS" npos) "get" apos) [e] [] cpos) (e1 (v9 di) g):=by obtain⟨a,hm,ht⟩:=T.T9;exact ZsP hm ht he m hg
theorem ZmB{e:Expr}{npos:aY}{g:E3}(T:Txt X.K X.mg)(he:C3 X e g)(hs:zY e:=by exactλ_ _=>rfl)(hg:Gl X "FORMS":=by rfl):C3 X (.Subscript (.Name "FORMS" npos) e pos) (e1 (uD di) g):=by obtain⟨a,hm,ht⟩:=T.T9;exact Zrf hm ht he hs hg
theorem Zgq(T:Txt X.K X.mg)(hg:Gl X "MOST_FIGURES":=by rfl):C3 X (.Name "MOST_FIGURES" pos) nC:=by obtain⟨t,e⟩:=T.nC;exact QS (v:=.int 60) e ⟨t,rfl⟩ (λ_ _=>Rep.int) hg
section
variable {P:Y3} {w:aO} {K:u5} {mg:aj->Option Yd} {base:aq}
theorem ZfA:eU ["word","figures"] ["word"] (Zv Br):=kj
theorem ZiD(A:dD K mg "is_number" Br ["word"])(T:Txt K mg):cA P w K mg base 1 "is_number" ["word"] pY:=
  cA.of (N:=["word","figures"]) (k:=0) A ZfA λf cdv A outer s H E hr=>by
    have hu:=mj hr;unfold Fv;refine Zi ?_ ?_
    .exact bG 1 ZfA.nd (Zv5 (rT (Zd8 (Ze 0) (Zc Zq Zj))) (gY gZ (Ze 0) (gq Zh) iB) (Ze 0))
    .refine Zi ?_ ?_
     .refine cW ?_ ?_ ?_
      .refine CW.ct ?_;refine Ax ?_ ?_
       .exact b7 Q5 (fJ (id:="len") jk T.iZ jl (Zc (Ze 1) Zj)) Zh
       .exact Aw (b7 yj (fJ (id:="len") jk T.iZ jl (Zc (Ze 1) Zj)) (Zgq T))
      .exact bM (cu JX)
      .exact cP
     .refine Zi ?_ ?_
      .exact cW (rT (Zd8 (Ze 1) (Zc Zq Zj))) (bM (cu (Av ((fP hu)) (Ze 0) Zq))) cP
      .refine bM ?_;refine cu ?_;refine fJ (id:="all") ?_ ?_ ?_ ?_
       .exact(ZuL rfl)
       .exact T.Adk
       .exact Zta
       .exact Zc (Ri (N':=["word","figures","figure"]) (Rm rfl (by kernel_rfl)) rfl rfl (J7 (Ze 1)) (λC cl s H ex=>⟨(Ay 2 ((show HN (["word","figures","figure"]:List aj)by decide +kernel))),Rc,(Av ((Rj hu)) (Ze 2) (ZkH T))⟩)) Zj
theorem Ziv:eU ["number","many"] ["number","many"] (Zv Bw):=kj
theorem ZiZ(A:dD K mg "is_within" Bw ["number","many"])(T:Txt K mg):cA P w K mg base 1 "is_within" ["number","many"] mC:=cA.of (N:=["number","many"]) (k:=0) A Ziv λf cdv A outer s H E hr=>by have hu:=mj hr;unfold R0;exact bM (cu (ZuV (Av Zwl (Ze 0) Zh) (Zub (Av Q5 (Ze 0) (Ze 1)))))
theorem yM:eU ["line","words","form","row","kind","word","number"] ["line"] (Zv Bu):=kj
theorem Zjq(A:dD K mg "read_row" Bu ["line"])(T:Txt K mg)(Li:cA P w K mg base 1 "is_number" ["word"] pY)(yU:cA P w K mg base 1 "is_within" ["number","many"] mC):cA P w K mg base 2 "read_row" ["line"] uM:=
  cA.of (N:=["line","words","form","row","kind","word","number"]) (k:=1) A yM λf cdv A outer s H E hr=>by
    have hu:=mj hr;unfold yI;refine Zi ?_ ?_
    .exact bG 1 yM.nd (Rr (Ze 0) (Zc Zq Zj))
    .refine Zi ?_ ?_
     .exact bG 2 yM.nd (Zmx T (eF eG (Ze 1) Zh))
     .refine Zi ?_ ?_
      .refine cW ?_ ?_ ?_
       .refine CW.ct ?_;refine Ax ?_ ?_
        .exact b7 Q6 (Ze 2) ye
        .refine Aw ?_;refine b7 ?_ ?_ ?_
         .exact(wz hu)
         .exact fJ (id:="len") jk T.iZ jl (Zc (Ze 1) Zj)
         .exact Zm bw (fJ (id:="len") jk T.iZ jl (Zc (Ze 2) Zj)) Zh
       .exact bM (cu ye)
       .exact cP
      .refine Zi ?_ ?_
       .exact bG 3 yM.nd (dU (Zc (eF eG (Ze 1) Zh) Zj))
       .refine Zi ?_ ?_
        .refine Zqg ?_ ?_ ?_ ?_ ?_
         .exact rfl
         .exact rfl
         .exact Zk9 T.Ue (Ze 2) (gY gZ (Ze 1) (gq Zh) iB)
         .exact QZ rfl (Az 4 yM.nd (Az 5 yM.nd QX))
         .refine Zi ?_ ?_
          .exact cW (Fd (rT (iT (k:=1) (ps:=["word"]) Li (hr.mono (by decide)) (Zc (Ze 5) Zj)))) (bM (cu ye)) cP
          .refine Zi ?_ ?_
           .exact bG 6 yM.nd (ni (T:="int") Zof T.Mr Zol (Zc (Ze 5) Zj))
           .refine Zi ?_ ?_
            .refine cW ?_ ?_ ?_
             .refine CW.ct ?_;refine rW ?_ ?_
              .exact b7 ((fP hu)) (Ze 4) Zq
              .exact uF (Fd (rT (iT (k:=1) (ps:=["number","many"]) yU (hr.mono (by decide)) (Zc (Ze 6) (Zc (ZoC T) Zj)))))
             .exact bM (cu ye)
             .exact cP
            .exact bM (QV (ZfP (Ze 3) (Zc (Ze 6) Zj)))
        .exact bM (cu (ni (T:="tuple") ZlZ T.T8 ZjD (Zc (Ze 3) Zj)))
theorem Ky:eU ["rows","row","kind","number"] ["rows"] (Zv Bv):=kj
theorem Zfw(A:dD K mg "refuse_no_roll" Bv ["rows"])(T:Txt K mg)(XO:yL K mg cX gF gD bH gC bW gG gH gJ jq)(yU:cA P w K mg base 1 "is_within" ["number","many"] mC):qQ P w K mg base 2 "refuse_no_roll" ["rows"] wH:=
  qQ.of (N:=["rows","row","kind","number"]) (k:=1) A Ky λf cdv A outer s H E hr=>by
    have hu:=mj hr;unfold Fw;refine Bh ?_ ?_
    .refine Ry ?_ ?_ ?_
     .refine b7 ?_ ?_ ?_
      .exact(ZpU hu)
      .exact eF eG (eF eG (Ze 0) (Ar Bb Zh)) Zh
      .exact QT (Zc Zq (Zc Zq Zj))
     .exact uJ (Zh5 (C:=bW) XO.TV XO.Gv (Zc Zq Zj))
     .exact Rx cP
    .refine uJ ?_;refine Zqe ?_ ?_ ?_ ?_ ?_
     .exact O7
     .exact rfl
     .exact J7 (Ze 0)
     .exact Ay 1 Ky.nd
     .refine uJ ?_;refine ZjX ?_ ?_ ?_ ?_ ?_
      .exact O7
      .exact rfl
      .exact Zk9 T.Ue (ZmB T (eF eG (Ze 1) Zh)) (gY gZ (Ze 1) (gq Zh) iB)
      .exact QZ rfl (Az 2 Ky.nd (Az 3 Ky.nd QX))
      .refine uJ ?_;refine Ry ?_ ?_ ?_
       .refine CW.ct ?_;refine rW ?_ ?_
        .exact b7 ((fP hu)) (Ze 2) Zq
        .refine uF ?_;exact Fd (rT (iT (k:=1) (ps:=["number","many"]) yU (hr.mono (by decide)) (Zc (Ze 3) (Zc (fJ (id:="len") jk T.iZ jl (Zc (Ze 0) Zj)) Zj))))
       .exact uJ (Zh5 (C:=bW) XO.TV XO.Gv (Zc (ZsG (Ze 3)) Zj))
       .exact Rx cP
theorem FJ:eU ["text","rows","number","line","row"] ["text"] (Zv Bs):=kj
theorem Zi8(A:dD K mg "read_roll" Bs ["text"])(T:Txt K mg)(XO:yL K mg cX gF gD bH gC bW gG gH gJ jq)(LC:cA P w K mg base 2 "read_row" ["line"] uM)(Gr:qQ P w K mg base 2 "refuse_no_roll" ["rows"] wH):qQ P w K mg base 3 "read_roll" ["text"] uN:=
  qQ.of (N:=["text","rows","number","line","row"]) (k:=2) A FJ λf cdv A outer s H E hr=>by
    have hu:=mj hr;unfold Fx;refine Bh ?_ ?_
    .exact J_ (bG 1 FJ.nd (dU Zj))
    .refine Bh ?_ ?_
     .refine ZjX ?_ ?_ ?_ ?_ ?_
      .exact O7
      .exact rfl
      .exact Znc T.Abl (Rr (Ze 0) (Zc Zq Zj))
      .exact QZ rfl (Az 2 FJ.nd (Az 3 FJ.nd QX))
      .refine Bh ?_ ?_
       .exact J_ (bG 4 FJ.nd (iT (k:=2) (ps:=["line"]) LC (hr.mono (by decide)) (Zc (Ze 3) Zj)))
       .refine Bh ?_ ?_
        .exact Ry (b7 Q6 (Ze 4) ye) (uJ (ZkV (C:=bH) (fI:=jq) (fn:="row") (CL:=cX) (qual:="BadRow.__init__") (st:=wI) (ps:=["self","row"]) XO.uX (Zku XO) (hr.mono (by decide)) XO.Mh (Zc (Ze 2) Zj))) (Rx cP)
        .exact uJ (J_ (QV (ZfP (Ze 1) (Zc (Ze 4) Zj))))
     .refine Bh ?_ ?_
      .exact ZjL (Zlr (k:=2) (ps:=["rows"]) Gr (hr.mono (by decide)) (Zc (Ze 1) Zj))
      .exact uJ (J_ (cu (ni (T:="tuple") ZlZ T.T8 ZjD (Zc (Ze 1) Zj))))
theorem Zgt:eU ["script","k"] ["script","k"] (Zv Bx):=kj
theorem Zgs(A:dD K mg "_law_cell_at" Bx ["script","k"])(T:Txt K mg):cA P w K mg base 1 "_law_cell_at" ["script","k"] Zz:=
  cA.of (N:=["script","k"]) (k:=0) A Zgt λf cdv A outer s H E hr=>by
    have hu:=mj hr;unfold Ks;refine Zi ?_ ?_
    .refine cW ?_ ?_ ?_
     .exact b7 Q5 (Ze 1) (fJ (id:="len") jk T.iZ jl (Zc (Ze 0) Zj))
     .exact bM (cu (eF eG (Ze 0) (Ze 1)))
     .exact cP
    .exact bM (cu Zh)
theorem Zhi:eU ["cell","k"] ["cell","k"] (Zv BJ):=kj
theorem Zht(A:dD K mg "_law_mixed" BJ ["cell","k"])(T:Txt K mg):cA P w K mg base 1 "_law_mixed" ["cell","k"] Fy:=
  cA.of (N:=["cell","k"]) (k:=0) A Zhi λf cdv A outer s H E hr=>by
    have hu:=mj hr;unfold R4;refine bM ?_;refine cu ?_;refine Zm ?_ ?_ ?_
    .exact cU
    .refine Zm ?_ ?_ ?_
     .exact qN
     .exact Zm bw (Zm cU (Ze 0) Zh) Zh
     .exact Zm bw Zh (Zm qN (Zm qN Zh (Ze 1)) (Ze 1))
    .exact Zh
theorem yN:eU ["cell","number","k"] ["cell"] (Zv BK):=kj
theorem Zhg(A:dD K mg "_law_number" BK ["cell"])(T:Txt K mg)(Lg:cA P w K mg base 1 "_law_mixed" ["cell","k"] Fy):cA P w K mg base 2 "_law_number" ["cell"] Bp:=
  cA.of (N:=["cell","number","k"]) (k:=1) A yN λf cdv A outer s H E hr=>by
    have hu:=mj hr;unfold R5;refine Zi ?_ ?_
    .exact bG 1 yN.nd Zh
    .refine Zi ?_ ?_
     .refine Znw ?_ ?_ ?_ ?_ ?_
      .exact rfl
      .exact rfl
      .exact ZhP T.T7 (Zm cU (Ze 0) Zh)
      .exact Ay 2 yN.nd
      .refine bM ?_;refine bG 1 ?_ ?_
       .exact yN.nd
       .refine Zm ?_ ?_ ?_
        .exact bw
        .exact Zm qN (Ze 1) (Zm Q4 Zh Zh)
        .exact Zm qN (iT (k:=1) (ps:=["cell","k"]) Lg (hr.mono (by decide)) (Zc (Zm iU (Ze 0) Zh) (Zc (Ze 2) Zj))) Zh
     .refine Zi ?_ ?_
      .exact bG 1 yN.nd (Zm cU (Ze 1) (Zm Q4 Zh Zh))
      .refine Zi ?_ ?_
       .refine cW ?_ ?_ ?_
        .exact b7 ((fP hu)) (Zm cU (Zm iU (Ze 0) Zh) Zh) Zh
        .exact bM (bG 1 yN.nd (Ar Bb (Ze 1)))
        .exact cP
       .refine Zi ?_ ?_
        .refine cW ?_ ?_ ?_
         .exact b7 ((fP hu)) (Zm cU (Zm iU (Ze 0) Zh) Zh) Zh
         .exact bM (bG 1 yN.nd (Zm Ba (Zm cU (Zm iU (Ze 0) Zh) Zh) Zh))
         .exact cP
        .exact bM (cu (Ze 1))
theorem Ca:eU ["cell","many","names","name","rest","boxes","sizes"] ["cell","many"] (Zv BP):=kj
theorem Zif(A:dD K mg "_law_line" BP ["cell","many"])(T:Txt K mg)(Lb:cA P w K mg base 2 "_law_number" ["cell"] Bp):cA P w K mg base 3 "_law_line" ["cell","many"] pZ:=
  cA.of (N:=["cell","many","names","name","rest","boxes","sizes"]) (k:=2) A Ca λf cdv A outer s H E hr=>by
    have hu:=mj hr;unfold Ku;refine Zi ?_ ?_
    .refine bG 2 ?_ ?_
     .exact Ca.nd
     .refine dU ?_;refine Zc ?_ ?_
      .exact Zq
      .refine Zc ?_ ?_
       .exact Zq
       .refine Zc ?_ ?_
        .exact Zq
        .refine Zc ?_ ?_
         .exact Zq
         .exact Zc Zq (Zc Zq (Zc Zq (Zc Zq (Zc Zq (Zc Zq (Zc Zq Zj))))))
    .refine Zi ?_ ?_
     .exact bG 3 Ca.nd (eF eG (Ze 2) (Zm cU (Ze 0) Zh))
     .refine Zi ?_ ?_
      .exact bG 4 Ca.nd (Zm iU (Ze 0) Zh)
      .refine Zi ?_ ?_
       .refine bG 5 ?_ ?_
        .exact Ca.nd
        .refine dU ?_;refine Zc ?_ ?_
         .exact Zm cU (Ze 4) Zh
         .refine Zc ?_ ?_
          .exact Zm cU (Zm iU (Ze 4) Zh) Zh
          .exact Zc (Zm cU (Zm iU (Ze 4) Zh) Zh) Zj
       .refine Zi ?_ ?_
        .refine cW ?_ ?_ ?_
         .exact b7 ((fP hu)) (Ze 3) Zq
         .refine bM ?_;refine cu ?_;refine Zm ?_ ?_ ?_
          .exact bw
          .refine Zm ?_ ?_ ?_
           .exact bw
           .exact Zm bw (Zm bw (Ze 3) Zq) (ni (T:="str") uI T.tu uG (Zc (eF eG (Ze 5) Zh) Zj))
           .exact Zq
          .exact ni (T:="str") uI T.tu uG (Zc (iT (k:=2) (ps:=["cell"]) Lb (hr.mono (by decide)) (Zc (Zm iU (Ze 4) Zh) Zj)) Zj)
         .exact cP
        .refine Zi ?_ ?_
         .refine cW ?_ ?_ ?_
          .exact b7 ((fP hu)) (Ze 3) Zq
          .refine bM ?_;refine cu ?_;exact Zm bw (Zm bw (Ze 3) Zq) (ni (T:="str") uI T.tu uG (Zc (Zm cU (Ze 4) (Ze 1)) Zj))
          .exact cP
         .refine Zi ?_ ?_
          .refine cW ?_ ?_ ?_
           .exact b7 ((fP hu)) (Ze 3) Zq
           .refine bM ?_;refine cu ?_;refine Zm ?_ ?_ ?_
            .exact bw
            .refine Zm ?_ ?_ ?_
             .exact bw
             .exact Zm bw (Zm bw (Ze 3) Zq) (ni (T:="str") uI T.tu uG (Zc (eF eG (Ze 5) Zh) Zj))
             .exact Zq
            .exact ni (T:="str") uI T.tu uG (Zc (Zm cU (Zm iU (Ze 4) Zh) (Ze 1)) Zj)
           .exact cP
          .refine Zi ?_ ?_
           .refine bG 6 ?_ ?_
            .exact Ca.nd
            .refine ZqQ ?_;refine mq ?_ ?_ ?_
             .exact Zq
             .exact Zh
             .refine mq ?_ ?_ ?_
              .exact Zq
              .exact Zh
              .exact mq Zq Zh (mq Zq Zh (mq Zq Zh (mq Zq Zh (mq Zq Zh Zod))))
           .refine bM ?_;refine cu ?_;refine qO ?_ ?_
            .exact Zq
            .refine Zc ?_ ?_
             .refine Zm ?_ ?_ ?_
              .exact bw
              .exact dU (Zc (Ze 3) Zj)
              .refine Ri (N':=["cell","many","names","name","rest","boxes","sizes","box"]) ?_ ?_ ?_ ?_ (λC cl s H ex=>⟨?_,?_,?_⟩)
               .exact Rm rfl (by kernel_rfl)
               .exact rfl
               .exact rfl
               .exact J7 (gY gZ (Ze 5) iB (gq (Znm hu (Ze 6) (Ze 3))))
               .exact Ay 7 ((show HN (["cell","many","names","name","rest","boxes","sizes","box"]:List aj)by decide +kernel))
               .exact Rc
               .exact ni (T:="str") uI T.tu uG (Zc (Ze 7) Zj)
             .exact Zj
theorem Cd:eU ["script","style","cells","many","far","last"] ["script","style"] (Zv BR):=kj
theorem Zhs(A:dD K mg "_law_lines" BR ["script","style"])(T:Txt K mg)(Lj:cA P w K mg base 3 "_law_line" ["cell","many"] pZ):cA P w K mg base 4 "_law_lines" ["script","style"] Fz:=
  cA.of (N:=["script","style","cells","many","far","last"]) (k:=3) A Cd λf cdv A outer s H E hr=>by
    have hu:=mj hr;unfold R6;refine Zi ?_ ?_
    .exact bG 2 Cd.nd (gY gZ (Ze 0) (gq Zh) (gq Zh))
    .refine Zi ?_ ?_
     .exact bG 3 Cd.nd (Zm bw (fJ (id:="len") jk T.iZ jl (Zc (Ze 2) Zj)) Zh)
     .refine Zi ?_ ?_
      .exact bG 4 Cd.nd (Ze 3)
      .refine Zi ?_ ?_
       .exact cW (b7 ((fP hu)) (Ze 1) Zh) (bM (bG 4 Cd.nd (Zm bw (Ze 3) Zh))) cP
       .refine Zi ?_ ?_
        .refine bG 5 ?_ ?_
         .exact Cd.nd
         .refine eF ?_ ?_ ?_
          .exact eG
          .refine dU ?_;refine Zc ?_ ?_
           .exact Zq
           .refine Zc ?_ ?_
            .exact Zm bw Zq (ni (T:="str") uI T.tu uG (Zc (Zm cU (Zm qN (Ze 1) Zh) (Ze 3)) Zj))
            .exact Zc Zq Zj
          .exact Zm cU (Ze 1) Zh
        .refine bM ?_;refine cu ?_;refine Zm ?_ ?_ ?_
         .exact bw
         .refine Ri (N':=["script","style","cells","many","far","last","cell"]) ?_ ?_ ?_ ?_ (λC cl s H ex=>⟨?_,?_,?_⟩)
          .exact Rm rfl (by kernel_rfl)
          .exact rfl
          .exact rfl
          .exact J7 (Ze 2)
          .exact Ay 6 ((show HN (["script","style","cells","many","far","last","cell"]:List aj)by decide +kernel))
          .exact Rc
          .exact iT (k:=3) (ps:=["cell","many"]) Lj (hr.mono (by decide)) (Zc (Ze 6) (Zc (Ze 4) Zj))
         .exact dU (Zc (Ze 5) Zj)
theorem uP:eU ["word","cell","letters","others","sign","at","found"] ["word","cell"] (Zv BW):=kj
theorem Zfa(A:dD K mg "_law_other_word" BW ["word","cell"])(T:Txt K mg):cA P w K mg base 1 "_law_other_word" ["word","cell"] Bq:=
  cA.of (N:=["word","cell","letters","others","sign","at","found"]) (k:=0) A uP λf cdv A outer s H E hr=>by
    have hu:=mj hr;unfold Kv;refine Zi ?_ ?_
    .exact bG 2 uP.nd Zq
    .refine Zi ?_ ?_
     .refine bG 3 ?_ ?_
      .exact uP.nd
      .refine dU ?_;refine Zc ?_ ?_
       .exact Zq
       .refine Zc ?_ ?_
        .exact Zq
        .refine Zc ?_ ?_
         .exact Zq
         .refine Zc ?_ ?_
          .exact Zq
          .refine Zc ?_ ?_
           .exact Zq
           .refine Zc ?_ ?_
            .exact Zq
            .refine Zc ?_ ?_
             .exact Zq
             .exact Zc Zq (Zc Zq (Zc Zq (Zc (ZfL (Ze 0)) (Zc (Zm bw (Ze 0) Zq) Zj))))
     .refine Zi ?_ ?_
      .exact bG 4 uP.nd (eF eG (Ze 2) (Zm cU (Zm iU (Ze 1) Zh) Zh))
      .refine Zi ?_ ?_
       .exact bG 5 uP.nd (Zm cU (Zm iU (Ze 1) Zh) (fJ (id:="len") jk T.iZ jl (Zc (Ze 0) Zj)))
       .refine Zi ?_ ?_
        .refine bG 6 ?_ ?_
         .exact uP.nd
         .refine Zm ?_ ?_ ?_
          .exact bw
          .exact gY gZ (Ze 0) iB (gq (Ze 5))
          .exact gY gZ (Ze 0) (gq (Zm bw (Ze 5) Zh)) iB
        .refine Zi ?_ ?_
         .refine cW ?_ ?_ ?_
          .exact b7 ((fP hu)) (Zm cU (Ze 1) Zh) Zh
          .refine bM ?_;refine bG 6 ?_ ?_
           .exact uP.nd
           .refine Zm ?_ ?_ ?_
            .exact bw
            .exact Zm bw (gY gZ (Ze 0) iB (gq (Ze 5))) (Ze 4)
            .exact gY gZ (Ze 0) (gq (Zm bw (Ze 5) Zh)) iB
          .exact cP
         .refine Zi ?_ ?_
          .refine cW ?_ ?_ ?_
           .exact b7 ((fP hu)) (Zm cU (Ze 1) Zh) Zh
           .refine bM ?_;refine bG 6 ?_ ?_
            .exact uP.nd
            .refine Zm ?_ ?_ ?_
             .exact bw
             .exact Zm bw (gY gZ (Ze 0) iB (gq (Ze 5))) (Ze 4)
             .exact gY gZ (Ze 0) (gq (Ze 5)) iB
           .exact cP
          .refine Zi ?_ ?_
           .refine cW ?_ ?_ ?_
            .exact b7 yj (Zm cU (Ze 1) Zh) Zh
            .exact bM (bG 6 uP.nd (eF eG (Ze 3) (Zm cU (Zm iU (Ze 1) Zh) Zh)))
            .exact cP
           .refine Zi ?_ ?_
            .refine cW ?_ ?_ ?_
             .refine b7 ?_ ?_ ?_
              .exact(Rj hu)
              .exact Ze 6
              .refine QT ?_;refine Zc ?_ ?_
               .exact Zq
               .refine Zc ?_ ?_
                .exact Zq
                .refine Zc ?_ ?_
                 .exact Zq
                 .exact Zc Zq (Zc Zq (Zc Zq (Zc Zq (Zc Zq (Zc Zq (Zc Zq Zj))))))
             .exact bM (cu (Zm bw (Ze 6) Zq))
             .exact cP
            .exact bM (cu (Ze 6))
theorem ZdA:eU ["word","cell","some"] ["word","cell"] (Zv BX):=kj
theorem Zfe(A:dD K mg "_law_bad_number" BX ["word","cell"])(T:Txt K mg):cA P w K mg base 1 "_law_bad_number" ["word","cell"] yJ:=
  cA.of (N:=["word","cell","some"]) (k:=0) A ZdA λf cdv A outer s H E hr=>by
    have hu:=mj hr;unfold R7;refine Zi ?_ ?_
    .refine bG 2 ?_ ?_
     .exact ZdA.nd
     .refine dU ?_;refine Zc ?_ ?_
      .exact Zm bw Zq (Ze 0)
      .refine Zc ?_ ?_
       .exact Zm bw Zq (Ze 0)
       .refine Zc ?_ ?_
        .exact Zq
        .refine Zc ?_ ?_
         .exact Zq
         .refine Zc ?_ ?_
          .exact Zq
          .refine Zc ?_ ?_
           .exact Zq
           .refine Zc ?_ ?_
            .exact Zm bw (Ze 0) Zq
            .exact Zc (Zm bw (Ze 0) Zq) (Zc (Zm qN Zq Zh) (Zc Zq (Zc Zq Zj)))
    .refine bM ?_;refine cu ?_;refine eF ?_ ?_ ?_
     .exact eG
     .refine Zm ?_ ?_ ?_
      .exact bw
      .exact Ze 2
      .exact dU (Zc (Zm bw Zq (Zm qN Zq Zh)) (Zc (Zm bw Zq (Ze 0)) Zj))
     .exact Zm cU (Ze 1) Zh
theorem uQ:eU ["line","cell","words","kind","rest","at","many","box","more","far"] ["line","cell"] (Zv BZ):=kj
theorem Zgr(A:dD K mg "_law_spoiled" BZ ["line","cell"])(T:Txt K mg)(K4:cA P w K mg base 1 "_law_other_word" ["word","cell"] Bq)(K5:cA P w K mg base 1 "_law_bad_number" ["word","cell"] yJ):cA P w K mg base 2 "_law_spoiled" ["line","cell"] yK:=
  cA.of (N:=["line","cell","words","kind","rest","at","many","box","more","far"]) (k:=1) A uQ λf cdv A outer s H E hr=>by
    have hu:=mj hr;unfold R8;refine Zi ?_ ?_
    .exact bG 2 uQ.nd (Rr (Ze 0) (Zc Zq Zj))
    .refine Zi ?_ ?_
     .exact bG 3 uQ.nd (Zm cU (Ze 1) Zh)
     .refine Zi ?_ ?_
      .exact bG 4 uQ.nd (Zm iU (Ze 1) Zh)
      .refine Zi ?_ ?_
       .refine bG 5 ?_ ?_
        .exact uQ.nd
        .refine Zm ?_ ?_ ?_
         .exact bw
         .exact Zh
         .refine Zm ?_ ?_ ?_
          .exact cU
          .exact Ze 4
          .refine fJ (id:="max") ?_ ?_ ?_ ?_
           .exact(Zot rfl)
           .exact T.Uc
           .exact ZnO
           .exact Zc Zh (Zc (Zm Ba (fJ (id:="len") jk T.iZ jl (Zc (Ze 2) Zj)) Zh) Zj)
       .refine Zi ?_ ?_
        .refine cW ?_ ?_ ?_
         .exact b7 ((fP hu)) (Ze 3) Zh
         .refine bM ?_;refine cu ?_;refine Zm ?_ ?_ ?_
          .exact bw
          .exact Ze 0
          .refine eF ?_ ?_ ?_
           .exact eG
           .exact dU (Zc Zq (Zc Zq (Zc Zq (Zc Zq (Zc Zq (Zc Zq (Zc Zq Zj)))))))
           .exact Zm cU (Ze 4) Zh
         .exact cP
        .refine Zi ?_ ?_
         .refine cW ?_ ?_ ?_
          .exact b7 ((fP hu)) (Ze 3) Zh
          .refine bM ?_;refine cu ?_;refine qO ?_ ?_
           .exact Zq
           .refine Zc ?_ ?_
            .refine gY ?_ ?_ ?_ ?_
             .exact gZ
             .exact Ze 2
             .exact iB
             .refine gq ?_;refine fJ (id:="max") ?_ ?_ ?_ ?_
              .exact(Zot rfl)
              .exact T.Uc
              .exact ZnO
              .refine Zc ?_ ?_
               .exact Zm Ba (Zm Ba (fJ (id:="len") jk T.iZ jl (Zc (Ze 2) Zj)) Zh) (Zm cU (Ze 4) Zh)
               .refine Zc ?_ ?_
                .exact ni (T:="int") Zof T.Mr Zol (Zc (Av yj (fJ (id:="len") jk T.iZ jl (Zc (Ze 2) Zj)) Zh) Zj)
                .exact Zj
            .exact Zj
          .exact cP
         .refine Zi ?_ ?_
          .refine cW ?_ ?_ ?_
           .exact b7 ((fP hu)) (Ze 3) Zh
           .refine bM ?_;refine cu ?_;refine qO ?_ ?_
            .exact Zq
            .refine Zc ?_ ?_
             .refine Zm ?_ ?_ ?_
              .exact bw
              .exact dU (Zc (iT (k:=1) (ps:=["word","cell"]) K4 (hr.mono (by decide)) (Zc (eF eG (Ze 2) Zh) (Zc (Ze 4) Zj))) Zj)
              .exact gY gZ (Ze 2) (gq Zh) iB
             .exact Zj
           .exact cP
          .refine Zi ?_ ?_
           .refine cW ?_ ?_ ?_
            .exact b7 ((fP hu)) (Ze 3) Zh
            .refine bM ?_;refine cu ?_;refine qO ?_ ?_
             .exact Zq
             .refine Zc ?_ ?_
              .refine Zm ?_ ?_ ?_
               .exact bw
               .refine dU ?_;refine Zc ?_ ?_
                .refine Zm ?_ ?_ ?_
                 .exact bw
                 .exact ZfL (gY gZ (eF eG (Ze 2) Zh) iB (gq Zh))
                 .exact gY gZ (eF eG (Ze 2) Zh) (gq Zh) iB
                .exact Zj
               .exact gY gZ (Ze 2) (gq Zh) iB
              .exact Zj
            .exact cP
           .refine Zi ?_ ?_
            .refine cW ?_ ?_ ?_
             .refine CW.ct ?_;refine rW ?_ ?_
              .exact b7 ((fP hu)) (Ze 3) Zh
              .refine rW ?_ ?_
               .exact b7 yj (fJ (id:="len") jk T.iZ jl (Zc (Ze 2) Zj)) Zh
               .exact uF (b7 ((wz hu)) (eF eG (Ze 2) Zh) Zq)
             .refine Zi ?_ ?_
              .refine bG 6 ?_ ?_
               .exact uQ.nd
               .refine Znm ?_ ?_ ?_
                .exact hu
                .refine ZqQ ?_;refine mq ?_ ?_ ?_
                 .exact Zq
                 .exact Zh
                 .refine mq ?_ ?_ ?_
                  .exact Zq
                  .exact Zh
                  .refine mq ?_ ?_ ?_
                   .exact Zq
                   .exact Zh
                   .exact mq Zq Zh (mq Zq Zh (mq Zq Zh (mq Zq Zh (mq Zq Zh Zod))))
                .exact eF eG (Ze 2) Zh
              .refine Zi ?_ ?_
               .exact bG 7 uQ.nd (Zm bw Zh (Zm cU (Zm iU (Ze 4) Zh) (Ze 6)))
               .refine Zi ?_ ?_
                .exact bG 8 uQ.nd (Zm cU (Zm iU (Ze 4) Zh) (Zm Q4 Zh Zh))
                .refine Zi ?_ ?_
                 .refine bG 9 ?_ ?_
                  .exact uQ.nd
                  .refine eF ?_ ?_ ?_
                   .exact eG
                   .refine dU ?_;refine Zc ?_ ?_
                    .exact Zq
                    .refine Zc ?_ ?_
                     .exact Zq
                     .refine Zc ?_ ?_
                      .exact Zm qN Zq Zh
                      .refine Zc ?_ ?_
                       .exact ni (T:="str") uI T.tu uG (Zc (Zm bw Zh (Ze 8)) Zj)
                       .exact Zc (ni (T:="str") uI T.tu uG (Zc (Zm Ba (Ar Bb Zh) (Ze 8)) Zj)) Zj
                   .exact Zm cU (Ze 4) Zh
                 .refine bM ?_;refine cu ?_;refine qO ?_ ?_
                  .exact Zq
                  .refine Zc ?_ ?_
                   .refine Zm ?_ ?_ ?_
                    .exact bw
                    .exact Zm bw (gY gZ (Ze 2) iB (gq (Ze 7))) (dU (Zc (Ze 9) Zj))
                    .exact gY gZ (Ze 2) (gq (Zm bw (Ze 7) Zh)) iB
                   .exact Zj
             .exact cP
            .refine Zi ?_ ?_
             .refine cW ?_ ?_ ?_
              .refine CW.ct ?_;refine rW ?_ ?_
               .exact b7 ((Rj hu)) (Ze 3) (QT (Zc Zh (Zc Zh (Zc Zh Zj))))
               .exact uF (b7 yj (fJ (id:="len") jk T.iZ jl (Zc (Ze 2) Zj)) Zh)
              .refine bM ?_;refine cu ?_;refine qO ?_ ?_
               .exact Zq
               .refine Zc ?_ ?_
                .refine Zm ?_ ?_ ?_
                 .exact bw
                 .refine Zm ?_ ?_ ?_
                  .exact bw
                  .exact gY gZ (Ze 2) iB (gq (Ze 5))
                  .refine dU ?_;exact Zc (iT (k:=1) (ps:=["word","cell"]) K5 (hr.mono (by decide)) (Zc (eF eG (Ze 2) (Ze 5)) (Zc (Zm iU (Ze 4) Zh) Zj))) Zj
                 .exact gY gZ (Ze 2) (gq (Zm bw (Ze 5) Zh)) iB
                .exact Zj
              .exact cP
             .refine Zi ?_ ?_
              .exact cW (b7 ((fP hu)) (Ze 3) Zh) (bM (cu (Zm bw Zq (Ze 0)))) cP
              .refine Zi ?_ ?_
               .exact cW (b7 ((fP hu)) (Ze 3) Zh) (bM (cu (Zm bw (Ze 0) Zq))) cP
               .refine Zi ?_ ?_
                .refine cW ?_ ?_ ?_
                 .refine CW.ct ?_;exact rW (b7 ((fP hu)) (Ze 3) Zh) (uF (b7 yj (fJ (id:="len") jk T.iZ jl (Zc (Ze 2) Zj)) Zh))
                 .refine bM ?_;refine cu ?_;refine qO ?_ ?_
                  .exact Zq
                  .refine Zc ?_ ?_
                   .refine Zm ?_ ?_ ?_
                    .exact bw
                    .exact Zm bw (gY gZ (Ze 2) iB (gq (Ze 5))) (dU (Zc Zq Zj))
                    .exact gY gZ (Ze 2) (gq (Ze 5)) iB
                   .exact Zj
                 .exact cP
                .refine bM ?_;refine cu ?_;exact eF eG (dU (Zc Zq (Zc Zq (Zc Zq (Zc Zq Zj))))) (Zm cU (Ze 4) Zh)
theorem Ce:eU ["text","caught","e","others"] ["text"] (Zv B_):=kj
theorem Zhm(A:dD K mg "_law_fault" B_ ["text"])(T:Txt K mg)(XO:yL K mg cX gF gD bH gC bW gG gH gJ jq)(Gs:qQ P w K mg base 3 "read_roll" ["text"] uN):cA P w K mg base 4 "_law_fault" ["text"] nq:=
  cA.of (N:=["text","caught","e","others"]) (k:=3) A Ce λf cdv A outer s H E hr=>by
    have hu:=mj hr;unfold Kw;refine Zi ?_ ?_
    .exact bG 1 Ce.nd ye
    .refine Zi ?_ ?_
     .exact Zr1 (cs:=[[66,97,100,82,111,119],[78,111,82,111,108,108]]) (CE:=cX) 2 Ce.nd XO.K6 XO.Aa4 (λKd E'=>(uJ (ZjL (Zlr (k:=3) (ps:=["text"]) Gs (hr.mono (by decide)) (Zc (Ze 0) Zj))))) (λA' E'=>(bM (bG 1 Ce.nd (Ze 2))))
     .refine Zi ?_ ?_
      .exact cW (b7 Q6 (Ze 1) ye) (bM (cu (dU (Zc Zh (Zc Zh Zj))))) cP
      .refine Zi ?_ ?_
       .refine bG 3 ?_ ?_
        .exact Ce.nd
        .refine dU ?_;refine Zc ?_ ?_
         .exact uK (C:=gF) T.oO XO.AbV XO.AcS (Ze 1)
         .exact Zc (uK (C:=gD) T.oO XO.Abj XO.AbQ (Ze 1)) (Zc (uK (C:=gC) T.oO XO.Aa7 XO.Abk (Ze 1)) Zj)
       .refine Zi ?_ ?_
        .refine bG 3 ?_ ?_
         .exact Ce.nd
         .refine Zm ?_ ?_ ?_
          .exact bw
          .exact Ze 3
          .refine dU ?_;refine Zc ?_ ?_
           .exact uK (C:=gG) T.oO XO.AbW XO.AcR (Ze 1)
           .exact Zc (uK (C:=gH) T.oO XO.AcO XO.Ac2 (Ze 1)) (Zc (uK (C:=gJ) T.oO XO.AcP XO.Ac1 (Ze 1)) Zj)
        .refine Zi ?_ ?_
         .refine cW ?_ ?_ ?_
          .refine CW.ct ?_;refine Ax ?_ ?_
           .exact rT (fJ (id:="any") ((Zun rfl)) T.Adl Zsp (Zc (Ze 3) Zj))
           .exact Aw (Fd (rT (ZnL (T:="ValueError") T.oO T.Aa9 Zgv XO.Aa8 (Ze 1))))
          .exact bM (cu (dU (Zc (Ar Bb Zh) (Zc Zh Zj))))
          .exact cP
         .refine Zi ?_ ?_
          .refine cW ?_ ?_ ?_
           .exact b7 ((fP hu)) (uK (C:=bH) T.oO XO.Mh XO.AcQ (Ze 1)) (uK (C:=bW) T.oO XO.Gv XO.TX (Ze 1))
           .exact bM (cu (dU (Zc (Ar Bb Zh) (Zc Zh Zj))))
           .exact cP
          .refine Zi ?_ ?_
           .exact cW (rT (uK (C:=bW) T.oO XO.Gv XO.TX (Ze 1))) (bM (cu (dU (Zc Zh (Zc Zh Zj))))) cP
           .refine Zi ?_ ?_
            .refine cW ?_ ?_ ?_
             .refine CW.ct ?_;refine Ax ?_ ?_
              .exact Fd (rT (Zn8 .int T.oO T.Mr (Kp (C:=bH) (c:=[66,97,100,82,111,119]) (m:=[114,111,119]) XO.Gx (Ze 1))))
              .exact Aw (rT (Zn8 .bool T.oO T.Adc (Kp (C:=bH) (c:=[66,97,100,82,111,119]) (m:=[114,111,119]) XO.Gx (Ze 1))))
             .exact bM (cu (dU (Zc (Ar Bb Zh) (Zc Zh Zj))))
             .exact cP
            .exact bM (cu (dU (Zc Zh (Zc (Kp (C:=bH) (c:=[66,97,100,82,111,119]) (m:=[114,111,119]) XO.Gx (Ze 1)) Zj))))
theorem mD:eU ["script","style","lines","clean","first","bad","k","cell","at","text"] ["script"] (Zv uO):=kj
theorem ZrK{f:Yq}{fd:gM}(F:pF K "law" "law" uO f fd)(T:Txt K mg)(XO:yL K mg cX gF gD bH gC bW gG gH gJ jq)(uW:cA P w K mg base 1 "_law_cell_at" ["script","k"] Zz)(Lh:cA P w K mg base 4 "_law_lines" ["script","style"] Fz)(K7:cA P w K mg base 2 "_law_spoiled" ["line","cell"] yK)(Cu:cA P w K mg base 4 "_law_fault" ["text"] nq):fC P w K mg base pD 5 f fd ["script"] (yg K 1 ZlC):=
  fn3 (N:=["script","style","lines","clean","first","bad","k","cell","at","text"]) (k:=4) F mD λcdv A outer s H E hr=>by
    have hu:=mj hr;unfold R9;refine Zi ?_ ?_
    .exact bG 1 mD.nd (Zm cU (iT (k:=1) (ps:=["script","k"]) uW (hr.mono (by decide)) (Zc (Ze 0) (Zc Zh Zj))) Zh)
    .refine Zi ?_ ?_
     .exact bG 2 mD.nd (iT (k:=4) (ps:=["script","style"]) Lh (hr.mono (by decide)) (Zc (Ze 0) (Zc (Ze 1) Zj)))
     .refine Zi ?_ ?_
      .exact bG 3 mD.nd (iT (k:=4) (ps:=["text"]) Cu (hr.mono (by decide)) (Zc (qO Zq (Zc (Ze 2) Zj)) Zj))
      .refine Zi ?_ ?_
       .refine cW ?_ ?_ ?_
        .refine CW.ct ?_;refine Ax ?_ ?_
         .exact CW.ct (rW (b7 ((fP hu)) (Ze 1) Zh) (uF (b7 ((wz hu)) (Ze 3) (dU (Zc Zh (Zc Zh Zj))))))
         .refine Aw ?_;exact CW.ct (rW (b7 ((fP hu)) (Ze 1) Zh) (uF (b7 ((wz hu)) (Ze 3) (dU (Zc Zh (Zc Zh Zj))))))
        .exact bM (cu JX)
        .exact cP
       .refine Zi ?_ ?_
        .refine cW ?_ ?_ ?_
         .refine CW.ct ?_;exact rW (b7 ((wz hu)) (eF eG (Ze 3) Zh) Zh) (uF (b7 ((wz hu)) (eF eG (Ze 3) Zh) Zh))
         .exact bM (cu JX)
         .exact cP
        .refine Zi ?_ ?_
         .exact bG 4 mD.nd (fJ (id:="len") jk T.iZ jl (Zc (Ze 2) Zj))
         .refine Zi ?_ ?_
          .exact bG 5 mD.nd (ni (T:="list") Zst T.Ade ZpJ (Zc (Ze 2) Zj))
          .refine Zi ?_ ?_
           .refine Znw ?_ ?_ ?_ ?_ ?_
            .exact rfl
            .exact rfl
            .exact ZhP T.T7 (Zm bw Zh (Zm cU (iT (k:=1) (ps:=["script","k"]) uW (hr.mono (by decide)) (Zc (Ze 0) (Zc Zh Zj))) Zh))
            .exact Ay 6 mD.nd
            .refine Zi ?_ ?_
             .refine bG 7 ?_ ?_
              .exact mD.nd
              .refine Zm ?_ ?_ ?_
               .exact bw
               .exact Zm iU (iT (k:=1) (ps:=["script","k"]) uW (hr.mono (by decide)) (Zc (Ze 0) (Zc Zh Zj))) Zh
               .exact Zm qN (Ze 6) (Ze 6)
             .refine Zi ?_ ?_
              .refine bG 7 ?_ ?_
               .exact mD.nd
               .refine Zm ?_ ?_ ?_
                .exact bw
                .exact Ze 7
                .refine Zm ?_ ?_ ?_
                 .exact iU
                 .exact iT (k:=1) (ps:=["script","k"]) uW (hr.mono (by decide)) (Zc (Ze 0) (Zc Zh Zj))
                 .exact Zm bw Zh (Zm qN Zh (Ze 6))
              .refine Zi ?_ ?_
               .exact bG 8 mD.nd (Zm cU (Ze 7) (fJ (id:="len") jk T.iZ jl (Zc (Ze 2) Zj)))
               .refine Zi ?_ ?_
                .refine ZlK ?_ ?_ ?_
                 .exact Ze 5
                 .exact Ze 8
                 .refine iT (k:=2) (ps:=["line","cell"]) ?_ ?_ ?_
                  .exact K7
                  .exact hr.mono (by decide)
                  .refine Zc ?_ ?_
                   .exact eF eG (Ze 2) (Ze 8)
                   .exact Zc (Zm iU (Ze 7) (fJ (id:="len") jk T.iZ jl (Zc (Ze 2) Zj))) Zj
                .exact bM (bG 4 mD.nd (fJ (id:="min") ((Zo7 rfl)) T.Ud Zm8 (Zc (Ze 4) (Zc (Ze 8) Zj))))
           .refine Zi ?_ ?_
            .exact bG 9 mD.nd (qO Zq (Zc (Ze 5) Zj))
            .refine Zi ?_ ?_
             .refine cW ?_ ?_ ?_
              .refine CW.ct ?_;refine rW ?_ ?_
               .exact b7 yj (fJ (id:="len") jk T.iZ jl (Zc (Ze 2) Zj)) Zh
               .exact uF (b7 ((fP hu)) (Zm cU (iT (k:=1) (ps:=["script","k"]) uW (hr.mono (by decide)) (Zc (Ze 0) (Zc Zh Zj))) Zh) Zh)
              .refine Zi ?_ ?_
               .refine bG 8 ?_ ?_
                .exact mD.nd
                .refine Zm ?_ ?_ ?_
                 .exact cU
                 .exact Zm iU (iT (k:=1) (ps:=["script","k"]) uW (hr.mono (by decide)) (Zc (Ze 0) (Zc Zh Zj))) Zh
                 .exact Zm Ba (fJ (id:="len") jk T.iZ jl (Zc (Ze 2) Zj)) Zh
               .refine Zi ?_ ?_
                .exact bG 4 mD.nd (fJ (id:="min") ((Zo7 rfl)) T.Ud Zm8 (Zc (Ze 4) (Zc (Ze 8) Zj)))
                .refine Zi ?_ ?_
                 .refine ZlK ?_ ?_ ?_
                  .exact Ze 5
                  .exact Ze 8
                  .exact Zm bw (Zm bw (eF eG (Ze 2) (Ze 8)) Zq) (eF eG (Ze 2) (Zm bw (Ze 8) Zh))
                 .refine Zi ?_ ?_
                  .exact QV (Zmu (Ze 5) (Zc (Zm bw (Ze 8) Zh) Zj))
                  .exact bM (bG 9 mD.nd (qO Zq (Zc (Ze 5) Zj)))
              .exact cP
             .refine Zi ?_ ?_
              .refine cW ?_ ?_ ?_
               .refine CW.ct ?_;refine Ax ?_ ?_
                .refine b7 ?_ ?_ ?_
                 .exact(wz hu)
                 .exact iT (k:=4) (ps:=["text"]) Cu (hr.mono (by decide)) (Zc (Ze 9) Zj)
                 .exact dU (Zc Zh (Zc (Zm bw (Ze 4) Zh) Zj))
                .refine Aw ?_;refine b7 ?_ ?_ ?_
                 .exact(wz hu)
                 .exact Kp (C:=bH) (c:=[66,97,100,82,111,119]) (m:=[114,111,119]) XO.Gx (ZtN (C:=bH) (fI:=jq) (fn:="row") (CL:=cX) (qual:="BadRow.__init__") (st:=wI) (ps:=["self","row"]) (P:=Ft) (ok:=okN) XO.uX (ZkQ XO) Zu6 (hr.mono (by decide)) XO.Mh (Zc (Zm bw (Ze 4) Zh) Zj))
                 .exact Zm bw (Ze 4) Zh
               .exact bM (cu JX)
               .exact cP
              .exact bM (cu (Av ((fP hu)) (iT (k:=4) (ps:=["text"]) Cu (hr.mono (by decide)) (Zc (qO Zq (Zc (Ze 2) Zj)) Zj)) (Ze 3)))
end
end Law
set_option maxHeartbeats 200000
namespace Law
open L3
theorem Zsm(c:Nat):∀(x y a b:List Nat),c∉x->c∉y->x++c::a=y++c::b->x=y/\a=b:=by
 intro x
 induction x with
 |nil=>
  intro y a b _ hy h;cases y with
  |nil=>exact⟨rfl,(qt h).2⟩|cons q y=>exact absurd (qt h).1 λe=>hy (e▸Yu ..)
 | cons p x ih=>
  intro y a b hx hy h;cases y with
  |nil=>exact absurd (qt h).1 λe=>hx (e▸Yu ..)|cons q y=>obtain⟨e1,e2⟩:=ih y a b (λz=>hx (Yv _ z)) (λz=>hy (Yv _ z)) (qt h).2;exact⟨by rw[(qt h).1,e1],e2⟩
theorem sI(s x y:List Nat)(r:List (List Nat)):glue s (x::y::r)=x++(s++glue s (y::r)):=by show x++s++glue s (y::r)=_;rw[jC]
theorem ZoP(c:Nat):∀(ts us:List (List Nat)),ts≠[]->us≠[]->(∀t∈ts,c∉t)->(∀t∈us,c∉t)->glue [c] ts=glue [c] us->ts=us:=by
 intro ts
 induction ts with
 |nil=>intro us h;exact absurd rfl h|cons t ts ih=>
  intro us _ hu ft fu h;cases us with
  |nil=>exact absurd rfl hu|cons u us=>
   have ht:=ft t (Yu ..);have hu':=fu u (Yu ..);cases ts with
   | nil=>
    cases us with
    |nil=>rw[show t=u from h]|cons v us=>rw[sI]at h;refine absurd (show c∈t from ?_) ht;rw[show t=_ from h];exact o4 _ (Yu ..)
   | cons w ts=>
    cases us with
    |nil=>rw[sI]at h;refine absurd (show c∈u from ?_) hu';rw[show u=_ from h.symm];exact o4 _ (Yu ..)|cons v us=>rw[sI,sI]at h;obtain⟨e1,e2⟩:=Zsm c t u _ _ ht hu' h;rw[e1,ih (v::us) (λz=>nomatch z) (λz=>nomatch z) (λq hq=>ft q (Yv _ hq)) (λq hq=>fu q (Yv _ hq)) e2]
theorem ZgP(x:List Nat)(c:Nat):glue [c] (lV x [c])=x:=by
 have h:=PySem.StrLaws.join_split (⟨x.toArray⟩:PySem.Str) (⟨([c]:List Nat).toArray⟩);have e:(Xo (⟨x.toArray⟩:PySem.Str) ⟨([c]:List Nat).toArray⟩)=(lV x [c]).map λt=>(⟨t.toArray⟩:PySem.Str):=by unfold lV;rw[Dm];exact(List.map_id _).symm.trans (Vw λt _=>rfl)
 rw[e,Rp]at h;have q:=congrArg (λs:PySem.Str=>s.cps.toList) h;simpa using q
theorem FN(c:Nat)(ts:List (List Nat))(h:ts≠[])(hf:∀t∈ts,c∉t):lV (glue [c] ts) [c]=ts:=by
 have hs:∀t∈lV (glue [c] ts) [c],c∉t:=by intro t ht;obtain⟨p,hp,rfl⟩:=jD.mp ht;exact PySem.StrLaws.split_free _ c p hp
 refine ZoP c _ _ (λz=>?_) h hs hf (ZgP _ c);have q:=ZgP (glue [c] ts) c;unfold lV at z;have z1:=Nv.mp z;have z2:=PyProof.Rows.split_pos (⟨(glue [c] ts).toArray⟩:PySem.Str) ⟨([c]:List Nat).toArray⟩;rw[z1]at z2;exact absurd z2 (by decide)
noncomputable def cG(n:Nat):List Nat:=(Ie 10 n).map Pa
theorem ZjQ:∀d:Nat,d<10->(Nat.digitChar d).toNat=48+d:=by decide
variable{n:Nat}
theorem sJ(h:n<10):cG n=[48+n]:=by unfold cG;rw[V7 h,Yy,qp,ZjQ n h]
theorem Cg(h:10<=n):cG n=cG (n / 10)++[48+n % 10]:=by have hm:n % 10<10:=Nat.mod_lt n (by decide);have t:Ie 10 (n / 10)++Ie 10 (n % 10)=Ie 10 (10*(n / 10)+n % 10):=Nat.toDigits_append_toDigits (by decide) (by omega) hm;rw[Nat.div_add_mod]at t;unfold cG;rw[←t,nP,V7 hm,Yy,qp,ZjQ _ hm]
theorem Ci(n:Nat):∀c∈cG n,48<=c/\c<=57:=by
 induction n using NT with
 | _ n ih=>
  by_cases h:n<10
  .rw[sJ h];intro c hc;rw[nJ.mp hc];exact⟨q9 _ _,lA 1 0x392b0302bc0a1b011 T1 h⟩
  .rw[Cg (jT h)];intro c hc;rcases gk.mp hc with hc|hc
   .exact ih (n / 10) (HW λz=>lB 3 0x6010ad01a1b0511002 T1 z h (N5 _ _)) c hc
   .rw[nJ.mp hc];exact⟨q9 _ _,lA 1 0x392b0302bc0a1b011 T1 (Nat.mod_lt _ (by decide))⟩
theorem FQ(n:Nat):cG n≠[]:=by
 by_cases h:n<10
 .rw[sJ h];exactλz=>nomatch z
 .rw[Cg (jT h)];exactλz=>absurd (List.append_eq_nil_iff.mp z).2 (λz=>nomatch z)
theorem FT(k:Nat):∀n:Nat,n<10^(k+1)->(cG n).length<=k+1:=by
 induction k with
 |zero=>intro n h;rw[sJ (by simpa using h)];exact Yt _|succ k ih=>
  intro n h;by_cases q:n<10
  .rw[sJ q];exact Wa 1 _
  .rw[Cg (jT q),Yi,Yk];have:=ih (n / 10) (by rw[Nat.pow_succ]at h;omega);exact lB 1 0xaa1cca0c0a1c001 T1 this
theorem ZmY(n:Nat)(h:0<n):∀r,cG n≠48::r:=by
 induction n using NT with
 | _ n ih=>
  intro r z;by_cases q:n<10
  .rw[sJ q]at z;have:=(qt z).1;exact lA 2 0x60e11302b0302bc21 T1 this h
  .rw[Cg (jT q)]at z;cases e:cG (n / 10)with
   |nil=>exact FQ _ e|cons c l=>rw[e]at z;have:=(qt z).1;subst this;exact ih (n / 10) (HW λz=>lB 3 0x6010ad01a1b0511002 T1 z q (N5 _ _)) (by omega) l e
theorem Zjh(n:Nat):DG (cG n)=n:=by
 induction n using NT with
 | _ n ih=>
  by_cases q:n<10
  .rw[sJ q];show 0*10+(48+n-48)=n;exact Y9 (lB 1 0x10a1b00dc01302bc302b0c21 T1 (nQ (q9 _ _))) (lB 1 0x1a1b00dc00302b1c0302bc01 T1 (o_ _ _))
  .rw[Cg (jT q)];have e:DG (cG (n / 10)++[48+n % 10])=DG (cG (n / 10))*10+(48+n % 10-48):=by
    unfold DG;rw[List.foldl_append];rfl
   rw[e,ih (n / 10) (HW λz=>lB 3 0x6010ad01a1b0511002 T1 z q (N5 _ _))];omega
theorem FW(n:Nat):Zd (n:Int)=cG n:=by unfold Zd cG;rw[Wq];show(Nat.repr n).toList.map Pa=_;rw[Wb]
theorem Kz(n:Nat):Zd (Int.negSucc n)=45::cG (n+1):=by unfold Zd cG;rw[Wq];show("-" ++Nat.repr (n+1)).toList.map Pa=_;rw[String.toList_append,nP,Wb];rfl
theorem uR(i:Int)(h:i.natAbs<10^60):Hf ⟨(Zd i).toArray⟩=Ya i/\(Zd i).length<=61/\∀c∈Zd i,45<=c:=by
 cases i with
 |ofNat n=>have hl:=FT 59 n h;have e:Zd (Int.ofNat n)=cG n:=FW n;rw[e];refine⟨?_,Nat.le_succ_of_le hl,λc hc=>Ym (by decide) (Ci n c hc).1⟩;have q:=PySem.intText_digits (x:=⟨(cG n).toArray⟩) (Ci n) (FQ n) (Ym (show(cG n).toArray.size<=60 by simpa using hl) (by decide));rw[q];show Ya ((DG (cG n):Nat):Int)=_;rw[Zjh];rfl|negSucc n=>
  have hl:=FT 59 (n+1) h;rw[Kz];refine⟨?_,HY hl,λc hc=>?_⟩
  .have q:=PySem.intText_neg (x:=⟨(45::cG (n+1)).toArray⟩) (cs:=cG (n+1)) rfl (Ci _) (FQ _) (Ym (show(45::cG (n+1)).toArray.size<=61 by simpa using hl) (by decide));rw[q,Zjh];rfl
  .rcases Y1.mp hc with e|hc
   .exact kZ e.symm
   .exact Ym (by decide) (Ci _ c hc).1
theorem Qg(n d:Nat):aG n d Ye=d:=rfl
theorem En(n d k:Nat):aG n d (Ya (k:Int))=dm k n:=by have h:¬((k:Int)<0):=(λz=>iN [_] [] 1 7211153 T1 z);simp only[aG,if_neg h,Dv]
variable{α:Type}
theorem oF(w:List α)(k:Nat):cutD w (Ya (k:Int)) Ye=w.drop k:=by
 unfold cutD;rw[En,Qg];by_cases h:k<=w.length
 .rw[H_ h,Hx (by simp)]
 .rw[HX (by exact lB 1 1052737 T1 h),Vr (Yt _),Vr (by exact lB 1 1052737 T1 h)];simp
theorem yO(w:List α)(k:Nat):cutD w Ye (Ya (k:Int))=w.take k:=by
 unfold cutD;rw[En,Qg];by_cases h:k<=w.length
 .rw[H_ h];simp
 .rw[HX (by exact lB 1 1052737 T1 h),Nat.sub_zero,V2,Hx (Yt _),Hx (by exact lB 1 1052737 T1 h)]
variable{i j:Int}
theorem KC(h:-(2^64)<i/\i<2^64):vV i j=true:=by unfold vV;rw[vD];left;simp only[gQ,decide_eq_true_eq];exact h
theorem mul_r(h:-(2^64)<j/\j<2^64):vV i j=true:=by unfold vV;rw[vD];right;simp only[gQ,decide_eq_true_eq];exact h
theorem gw(x:Int)(m:Nat)(h:0<m):∃a:Nat,x % (m:Int)=a/\a<m:=by have h1:=Ik x (b:=(m:Int)) (by exactλz=>iN [_] [] 2 416093702305 T1 z h);have h2:=Ij x (b:=(m:Int)) (by exact iN [_] [] 1 149491217 T1 h);exact⟨(x % (m:Int)).toNat,(tY h1).symm,by exact iN [_,_] [_] 2 18698308976785 T1 h2 (tY h1)⟩
variable{M:Store}
theorem iW(h:0<j/\j<1073741824):bD (.int i) (.int j) M= .ok (.int (i / j)) M:=by simp only[Zh3,if_pos h]
variable{ds:List D}{g:cN}{env:Zu}{M':Store}
theorem wJ(h:g env M= .ok ds M')(hl:decide (ds.length<=100)=true):bA g env M= .ok (.ref M'.length) (M'++[.lst ds]):=by have z:ds.length<=SZ:=Ym (of_decide_eq_true hl) (by decide);simp only[bA,h,R3.bind,if_pos z,alloc]
variable{d:D}{xs:List D}
theorem Znj{o t:E3}(ho:o env M= .ok (.ref n) M)(hM:M[n]?=Ya (.lst xs))(ht:t env M= .ok d M')(hM':M'[n]?=Ya (.lst xs))(hl:xs.length<SZ):
  fG (aZ j7 pK o (Za t (Zf))) env M= .nx env (M'.set n (.lst (xs++[d]))):=by
 have e:aZ j7 pK o (Za t (Zf)) env M= .ok .non (M'.set n (.lst (xs++[d]))):=by simp only[aZ,ho,R3.bind,Eu,hM,Za,ht,Zf,JN,hM',if_pos hl,if_true]
 rw[fG,e]
variable{f:E3}
theorem ZuA{op:D->D->D->Store->R3 D}{g h:E3}{M M1 M2 M3 M4:Store}{a b c:D}(h1:f env M= .ok a M1)(h2:g env M1= .ok b M2)(h3:h env M2= .ok c M3)(h4:op a b c M3= .ok d M4):e3 op f g h env M= .ok d M4:=by simp only[e3,h1,h2,h3,h4,R3.bind]
theorem wK(h:vV i j=true):cZ (.int i) (.int j) M= .ok (.int (i*j)) M:=by simp only[Znz,JG,ZoO,h,if_true]
theorem Cj(s:Nat)(b:Nat):∀ts:List (List Nat),(∀t∈ts,t.length<=b)->lU [s] ts<=ts.length*(b+1)/\(glue [s] ts).length<=ts.length*(b+1):=by
 intro ts
 induction ts with
 |nil=>intro _;exact⟨by simp[lU],by simp[glue]⟩|cons t ts ih=>
  intro h;have ht:=h t (Yu ..);obtain⟨i1,i2⟩:=ih λq hq=>h q (Yv _ hq);have e1:lU [s] (t::ts)=t.length+1+lU [s] ts:=by simp[lU]
  have e3:(ts.length+1)*(b+1)=ts.length*(b+1)+(b+1):=Nat.succ_mul ..;rw[e1,Yo,e3];refine⟨lD 2 0xa3c1c0a2cc032011001 T1 i1 ht,?_⟩;cases ts with
  |nil=>show t.length<=_;exact lC 1 0xa1c2c001001 T1 ht|cons u ts=>rw[sI,Yi,Yi];show t.length+(1+_)<=_;exact lD 2 0xa3c1c0ac2c032011001 T1 i2 ht
theorem strs_map:∀ts:List (List Nat),j_ (ts.map D.str)=Ya ts
 |[]=>rfl|t::ts=>by show(j_ (ts.map D.str)).map _=_;rw[strs_map ts];rfl
variable{ts:List (List Nat)}
theorem R_{s:Nat}(h:M[n]?=Ya (.lst (ts.map D.str)))(hz:lU [s] ts<=SZ):dZ (.str [s]) [.ref n] M= .ok (.str (glue [s] ts)) M:=by simp only[Zjt,h,strs_map,if_pos hz]
theorem oG{m:D->List D->Store->R3 D}{o g:E3}{M M1 M2:Store}{x:List Nat}{r:D}(h1:o env M= .ok (.str x) M)(h2:g env M= .ok d M1)(h3:m (.str x) [d] M1= .ok r M2):aZ bC m o (Za g Zf) env M= .ok r M2:=by simp only[aZ,h1,R3.bind,Qw,if_true,Za,h2,Zf,h3]
theorem Ck(h:i.natAbs<10^60):(Zd i).length<=61:=(uR i h).2.1
theorem ZrC(h:i.natAbs<10^60):i.natAbs.log2<1920:=by
 by_cases z:i.natAbs=0
 .rw[z];decide
 .exact(Nat.log2_lt z).mpr (tX h (by decide +kernel))
noncomputable abbrev sO:List Nat:=[48,49,50,51,52,53,54,55,56,57]
theorem in_str(c:Nat)(y:List Nat)(M:Store):jy (.str [c]) (.str y) M= .ok (.bl (decide (c∈y))) M:=rfl
theorem all_map{p:α->Bool}{l:List α}(h:M[n]?=Ya (.lst (l.map λc=>D.bl (p c)))):Af [.ref n] M= .ok (.bl (l.all p)) M:=by
 have a:∀l:List α,(l.map λc=>D.bl (p c)).all vY=true/\(l.map λc=>D.bl (p c)).all qC=l.all p:=by
  intro l
  induction l with
  |nil=>exact⟨rfl,rfl⟩|cons x l ih=>exact⟨by simp only[Yy,o7,vY,ih.1,vG],by rw[Yy,o7,o7,ih.2];cases p x<;>rfl⟩
 simp only[Ag,h,allB,(a l).1,(a l).2,if_true]
theorem ZgV{w fs:List Nat}(h1:1<=fs.length)(h2:fs.length<=60)(h3:∀r,fs≠48::r):
  (Zo (aJ (jh (e2 qy (Zx a_ (Za (Zb 1) (Zf))) (eC (.int 1))) (e2 eX (Zx a_ (Za (Zb 1) (Zf))) (nC))) (aK (eC (.bl false))) (aU)) (Zo (aJ (aZ bC pJ (Zb 1) (Za (eC (.str [48])) (Zf))) (aK (e2 bh (Zb 0) (eC (.str [48])))) (aU)) (aK (Zx Af (Za (mU (iK (Zb 1)) 1 (fO 2) [] (e2 jy (Zb 2) (sW))) (Zf)))))) [Ya (.str w),Ya (.str fs)] M= .rt (.bl (fs.all λc=>decide (c∈sO))) (M++[.lst (fs.map λc=>D.bl (decide (c∈sO)))]):=by
 have hz:fs.length<=SZ:=Ym h2 (by decide);have ln:(Zx a_ (Za (Zb 1) (Zf))) [Ya (.str w),Ya (.str fs)] M= .ok (.int fs.length) M:=dh (a:=.str fs) rfl (by simp only[z_,Aa,Ab,rP,if_pos hz]);have c1:(jh (e2 qy (Zx a_ (Za (Zb 1) (Zf))) (eC (.int 1))) (e2 eX (Zx a_ (Za (Zb 1) (Zf))) (nC))) [Ya (.str w),Ya (.str fs)] M= .ok (.bl false) M:=by rw[qG (M1:=M) (Zg ln rfl (by simp only[z7];rw[decide_eq_false (by exactλz=>iN [_] [] 2 415002921105 T1 z h1)]))];exact Zg ln (g:=nC) (b:=.int 60) rfl (by simp only[vX];rw[decide_eq_false (by exactλz=>iN [_] [] 2 0x63c2b001083c2b91 T1 z h2)])
 have c2:(aZ bC pJ (Zb 1) (Za (eC (.str [48])) (Zf))) [Ya (.str w),Ya (.str fs)] M= .ok (.bl false) M:=by
  refine oG (d:=.str [48]) rfl rfl ?_;cases fs with
  |nil=>exact absurd h1 (by decide)|cons c r=>
   have q:¬48=c:=λe=>h3 r (by rw[e]);have e:([48]:List Nat).isPrefixOf (c::r)=false:=by show((48==c)&&NK [] r)=false;rw[beq_eq_false_iff_ne.mpr q];rfl
   simp only[Ah];rw[if_pos ⟨hz,by decide⟩,e]
 rw[Zy (mW c1),Zy (mW c2)];have hi:(iK (Zb 1)) [Ya (.str w),Ya (.str fs)] M= .ok ⟨fs.map (λc=>D.str [c]),Ye⟩ M:=by simp only[iK,Zb,qj,nH,R3.bind,if_pos hz]
 have lc:=Zpd (h:=λc=>D.bl (decide (c∈sO))) (own:=1) (i:=2) (elt:=(e2 jy (Zb 2) (sW))) hi (λn z=>nomatch z)
  (λc hc M'=>Zg (a:=.str [c]) (b:=.str sO) rfl rfl (in_str c sO M')) (Ym h2 (by decide))
 exact qF (dh lc (all_map (dN _ _ _)))
theorem Ztd{c:Nat}(h:48<=c/\c<=57):c∈sO:=(List.mem_range'_1:c∈List.range' 48 10↔_).mpr ⟨h.1,Nat.lt_succ_of_le h.2⟩
theorem Sd(h:i.natAbs<10^60)(M:Store):pY [.str (Zd i)] M= .ok (.bl true) M:=by
 have go:∀(n:Nat) (w:List Nat),0<n->n<10^60->(um (aZ bC pJ (Zb 0) (Za (eC (.str [45])) (Zf))) (aW (Zb 0) (aN (eC (.int 1))) (aV)) (Zb 0)) [Ya (.str w),Ye] M= .ok (.str (cG n)) M->pY [.str w] M= .ok (.bl true) M:=λn w h0 h1 hf=>by
  refine Rt.pure (G:=[.lst ((cG n).map λc=>D.bl (decide (c∈sO)))]) (env:=[Ya (.str w),Ye]) ?_ rfl;unfold Fv;rw[Zy (b_ hf)];refine(ZgV ?_ (FT 59 n h1) (ZmY n h0)).trans (by rw[fB.mpr λc hc=>decide_eq_true (Ztd (Ci n c hc))]);cases e:cG n with
  |nil=>exact absurd e (FQ n)|cons _ _=>exact Wa 1 _
 cases i with
 | ofNat n=>
  have e:Zd (Int.ofNat n)=cG n:=FW n;have hp:(um (aZ bC pJ (Zb 0) (Za (eC (.str [45])) (Zf))) (aW (Zb 0) (aN (eC (.int 1))) (aV)) (Zb 0)) [Ya (.str (cG n)),Ye] M= .ok (.str (cG n)) M:=by
   rw[ZqX (M1:=M)]
   .rfl
   .refine oG (d:=.str [45]) rfl rfl ?_;have hl:=FT 59 n h;have e:([45]:List Nat).isPrefixOf (cG n)=false:=by
     cases q:cG n with
     |nil=>rfl|cons c r=>have qc:=Ci n c (by rw[q];exact Yu ..);show((45==c)&&NK [] r)=false;rw[beq_eq_false_iff_ne.mpr (by exactλz=>lA 2 0x60302b0102d2b31 T1 z qc.1)];rfl
    simp only[Ah];rw[if_pos ⟨Ym hl (by decide),by decide⟩,e]
  rw[e];by_cases z:n=0
  .subst z;refine Rt.pure (G:=[]) (env:=[Ya (.str (cG 0)),Ye]) ?_ rfl;rw[iJ];unfold Fv;rw[Zy (b_ hp),sJ (by decide)];simp[Zo,aJ,aK,aU,nC]
  .exact go n _ (Nat.pos_of_ne_zero z) h hp
 | negSucc n=>
  rw[Kz];have hl:=FT 59 (n+1) h;refine go (n+1) _ (Nat.succ_pos n) h ?_;rw[ZqW (M1:=M)]
  .have e:cutD (45::cG (n+1)) (Ya 1) Ye=cG (n+1):=oF (45::cG (n+1)) 1;have hz:(45::cG (n+1)).length<=SZ:=Ym (HY hl) (by decide);simp only[aW,Zb,aN,aV,eC,R3.bind,nH,lM,lO,lQ,lR,if_pos hz,e]
  .refine oG (d:=.str [45]) rfl rfl ?_;have hz:(45::cG (n+1)).length<=SZ:=Ym (HY hl) (by decide);simp only[Ah];rw[if_pos ⟨hz,by decide⟩];rfl
noncomputable def FZ(nm:List Nat)(is:List Int):D:=.tup (.str nm::is.map D.int)
noncomputable def fK(nm:List Nat)(is:List Int):List Nat:=glue [32] (nm::is.map Zd)
noncomputable abbrev bx:List Nat:=[98,111,120]
noncomputable abbrev qU:List Nat:=[114,111,119]
structure dW(nm:List Nat)(is:List Int)(ks:List (List Nat)):Prop where
 tab:tabAt nm di=Ya ks
 len:ks.length=is.length
 few:is.length<=3/\nm.length<=4
 abc:∀c∈nm,97<=c
 num:∀n∈is,n.natAbs<10^60
 box:∀(j:Nat) n,ks[j]?=Ya bx->is[j]?=Ya n->0<=n/\n<8
variable{is:List Int}
theorem ZnE{nm:List Nat}(hn:nm.length<=4)(h:∀n∈is,n.natAbs<10^60):∀t∈nm::is.map Zd,t.length<=61:=by
 intro t ht;rcases Y1.mp ht with e|ht
 .rw[e];exact Ym hn (by decide)
 .obtain⟨i,hi,rfl⟩:=jD.mp ht;exact Ck (h i hi)
theorem sS{nm:List Nat}(hl:is.length<=3)(hn:nm.length<=4)(h:∀n∈is,n.natAbs<10^60):lU [32] (nm::is.map Zd)<=248/\(fK nm is).length<=248:=by
 obtain⟨a,b⟩:=Cj 32 61 _ (ZnE hn h);have e:(nm::is.map Zd).length*(61+1)<=248:=by rw[Yo,Yg];omega
 exact⟨Ym a e,Ym b e⟩
variable{ks:List (List Nat)}
theorem zip_get(hl:ks.length=is.length){i:Nat}(h:(gn (ks.map D.str) (is.map λn=>D.str (Zd n)))[i]?=Ya d):∃k n,ks[i]?=Ya k/\is[i]?=Ya n/\d= .tup [.str k,.str (Zd n)]:=by
 rw[QK,gO,gO]at h;cases hk:ks[i]? with
 |none=>rw[hk]at h;cases h|some k=>
  cases hn:is[i]? with
  |none=>rw[hk,hn]at h;cases h|some n=>rw[hk,hn]at h;cases h;exact⟨k,n,rfl,rfl,rfl⟩
theorem KD(i m:Int)(M:Store):mC [.int i,.int m] M= .ok (.bl (decide (0<=i/\i<m))) M:=by
 refine Rt.pure (G:=[]) (env:=[Ya (.int i),Ya (.int m)]) ?_ rfl;rw[iJ];unfold R0;refine qF ?_;by_cases h:0<=i
 .rw[jj (M1:=M) (Zg rfl rfl (by simp only[ZlQ,decide_eq_true h]))];refine Zg rfl rfl ?_;simp only[z7,h,true_and]
 .rw[mX (M1:=M) (Zg rfl rfl (by simp only[ZlQ,decide_eq_false h])),decide_eq_false (λz=>h z.1)]
theorem Zih{line:D}{wd:D}{W S:MO}{nm:List Nat}(F:dW nm is ks)(hS:S= .lst (is.map λn=>D.str (Zd n))):
  ∃x y z,iy [(M.length+2,is.map λn=>D.str (Zd n))] (ou [4,5]) (Zo (aJ (e1 gW (aR pY (Za (Zb 5) (Zf)))) (aK (eC .non)) (aU)) (Zo (aD 6 (Zx lW (Za (Zb 5) (Zf)))) (Zo (aJ (cT (e2 bh (Zb 4) (eC (.str [98,111,120]))) (e1 gW (aR mC (Za (Zb 6) (Za (p8) (Zf)))))) (aK (eC .non)) (aU)) (fG (aZ j7 pK (Zb 3) (Za (Zb 6) (Zf)))))))
   (gn (ks.map D.str) (is.map λn=>D.str (Zd n))) [Ya line,Ya wd,Ya (.tup (ks.map D.str)),Ya (.ref (M.length+1)),Ye,Ye,Ye] (M++[W,.lst [.str nm],S])=
   .nx [Ya line,Ya wd,Ya (.tup (ks.map D.str)),Ya (.ref (M.length+1)),x,y,z] (M++[W,.lst (.str nm::is.map D.int),S]):=by
 obtain⟨e',M',hl,x,y,z,rfl,rfl⟩:=QJ (lk:=[(M.length+2,is.map λn=>D.str (Zd n))]) (g:=ou [4,5])
  (body:=(Zo (aJ (e1 gW (aR pY (Za (Zb 5) (Zf)))) (aK (eC .non)) (aU)) (Zo (aD 6 (Zx lW (Za (Zb 5) (Zf)))) (Zo (aJ (cT (e2 bh (Zb 4) (eC (.str [98,111,120]))) (e1 gW (aR mC (Za (Zb 6) (Za (p8) (Zf)))))) (aK (eC .non)) (aU)) (fG (aZ j7 pK (Zb 3) (Za (Zb 6) (Zf))))))))
  (P:=λj env M'=>∃x y z,env=[Ya line,Ya wd,Ya (.tup (ks.map D.str)),Ya (.ref (M.length+1)),x,y,z]/\M'=M++[W,.lst (.str nm::(is.take j).map D.int),S])
  (gn (ks.map D.str) (is.map λn=>D.str (Zd n))) 0 [Ya line,Ya wd,Ya (.tup (ks.map D.str)),Ya (.ref (M.length+1)),Ye,Ye,Ye] (M++[W,.lst [.str nm],S]) ⟨Ye,Ye,Ye,rfl,rfl⟩
  (λj env M' hp=>by obtain⟨x,y,z,rfl,rfl⟩:=hp;subst hS;simp[gm,uw])
  (λi d env M' hd hp=>by
   obtain⟨x,y,z,rfl,rfl⟩:=hp;obtain⟨k,n,hk,hn,rfl⟩:=zip_get F.len hd;rw[q_];refine⟨_,rfl,.inl ⟨[Ya line,Ya wd,Ya (.tup (ks.map D.str)),Ya (.ref (M.length+1)),Ya (.str k),Ya (.str (Zd n)),Ya (.int n)],M++[W,.lst (.str nm::(is.take (i+1)).map D.int),S],?_,_,_,_,rfl,rfl⟩⟩;have hb:=F.num n (q8 hn);obtain⟨r1,r2,r3⟩:=uR n hb;have c1:∀M0,(e1 gW (aR pY (Za (Zb 5) (Zf)))) [Ya line,Ya wd,Ya (.tup (ks.map D.str)),Ya (.ref (M.length+1)),Ya (.str k),Ya (.str (Zd n)),z] M0= .ok (.bl false) M0:=λM0=>eZ (x_ rfl (Sd hb M0)) rfl;refine(Zy (mW (c1 _))).trans ?_;have c2:∀M0,(Zx lW (Za (Zb 5) (Zf))) [Ya line,Ya wd,Ya (.tup (ks.map D.str)),Ya (.ref (M.length+1)),Ya (.str k),Ya (.str (Zd n)),z] M0= .ok (.int n) M0:=λM0=>dh (a:=.str (Zd n)) rfl (by simp only[JR,JS,r1];rw[if_pos (Ym r2 (by decide))]);refine(Zy (b_ (c2 _))).trans ?_;have c3:∀M0,(cT (e2 bh (Zb 4) (eC (.str [98,111,120]))) (e1 gW (aR mC (Za (Zb 6) (Za (p8) (Zf)))))) [Ya line,Ya wd,Ya (.tup (ks.map D.str)),Ya (.ref (M.length+1)),Ya (.str k),Ya (.str (Zd n)),Ya (.int n)] M0= .ok (.bl false) M0:=λM0=>by
    by_cases q:k=bx
    .subst q;rw[jj (M1:=M0) (Zg rfl rfl (by simp only[bh,jY,jZ,j4,j5,j6,decide_true]))];refine eZ (j9 rfl rfl (KD n 8 M0)) ?_;rw[decide_eq_true (F.box i n hk hn)];rfl
    .exact mX (M1:=M0) (Zg rfl rfl (by simp only[bh,jY,jZ,j4,j5,j6];rw[decide_eq_false q]))
   refine(Zy (mW (c3 _))).trans ?_;have e:(is.take (i+1)).map D.int=(is.take i).map D.int++[.int n]:=by rw[VJ,hn,nP];rfl
   have hz:(D.str nm::(is.take i).map D.int).length<SZ:=by have:=F.few.1;rw[Yo,Yg,Y7];simp only[SZ];exact lB 2 0xf42405ba1c1010131b001 T1 this (Dq _ _)
   rw[e];refine xZ (d:=.non) ?_;have g1:(M++[W,.lst (.str nm::(is.take i).map D.int),S])[M.length+1]?=Ya (.lst (.str nm::(is.take i).map D.int)):=by rw[uw];rfl
   simp only[aZ,Zb,qj,nH,R3.bind,Eu,g1,if_true,Za,Zf,JN,if_pos hz,QB];rfl)
 refine⟨x,y,z,hl.trans ?_⟩;have e:0+(gn (ks.map D.str) (is.map λn=>D.str (Zd n))).length=is.length:=by rw[QL,Yg,Yg,F.len,Nat.min_self,q_]
 rw[e,VR]
theorem ZgN{nm:List Nat}(F:dW nm is ks)(M:Store):uM [.str (fK nm is)] M= .ok (FZ nm is) M:=by
 have hl:=(sS F.few.1 F.few.2 F.num).2;have hsp:lV (fK nm is) [32]=nm::is.map Zd:=by
  refine FN 32 _ (λz=>nomatch z) λt ht=>?_;rcases Y1.mp ht with e|ht
  .rw[e];exactλz=>absurd (F.abc 32 z) (by decide)
  .obtain⟨i,hi,rfl⟩:=jD.mp ht
   exactλz=>absurd ((uR i (F.num i hi)).2.2 32 z) (by decide)
 have w0:(aZ bC mY (Zb 0) (Za (eC (.str [32])) (Zf))) [Ya (.str (fK nm is)),Ye,Ye,Ye,Ye,Ye,Ye] M= .ok (.ref M.length) (M++[.lst ((nm::is.map Zd).map D.str)]):=by refine oG (d:=.str [32]) rfl rfl ?_;simp only[Al,hsp];rw[if_pos ⟨by decide,Ym (Dp hl 2) (by decide)⟩];rfl
 have mw:∀G,(M++ .lst ((nm::is.map Zd).map D.str)::G)[M.length]?=Ya (.lst ((nm::is.map Zd).map D.str)):=λG=>dN ..;have wn:∀env G,env[1]?=Ya (Ya (.ref M.length))->(e2 aM (Zb 1) (eC (.int 0))) env (M++ .lst ((nm::is.map Zd).map D.str)::G)= .ok (.str nm) (M++ .lst ((nm::is.map Zd).map D.str)::G):=λenv G he=>by refine Zg (a:=.ref M.length) (by simp only[Zb,he]) rfl (ji (mw G) ?_);exact iw _ 0
 refine Rt.pure (G:=[.lst ((nm::is.map Zd).map D.str),.lst (.str nm::is.map D.int),.lst (is.map λn=>D.str (Zd n))]) (env:=[Ya (.str (fK nm is)),Ye,Ye,Ye,Ye,Ye,Ye]) ?_ ?_
 .unfold yI;refine(Zy (b_ w0)).trans ?_;have f0:(e1 (v9 di) (e2 aM (Zb 1) (eC (.int 0)))) [Ya (.str (fK nm is)),Ya (.ref M.length),Ye,Ye,Ye,Ye,Ye] (M++[.lst ((nm::is.map Zd).map D.str)])= .ok (.tup (ks.map D.str)) (M++[.lst ((nm::is.map Zd).map D.str)]):=
   eZ (wn _ [] rfl) (by simp only[v9,F.tab])
  refine(Zy (b_ f0)).trans ?_;have c0:(jh (e2 pH (Zb 2) (eC .non)) (e2 dg (Zx a_ (Za (Zb 1) (Zf))) (e2 Zk (Zx a_ (Za (Zb 2) (Zf))) (eC (.int 1))))) [Ya (.str (fK nm is)),Ya (.ref M.length),Ya (.tup (ks.map D.str)),Ye,Ye,Ye,Ye] (M++[.lst ((nm::is.map Zd).map D.str)])= .ok (.bl false) (M++[.lst ((nm::is.map Zd).map D.str)]):=by
   rw[qG (M1:=M++[.lst ((nm::is.map Zd).map D.str)]) (Zg rfl rfl (by simp only[z8];rw[decide_eq_false (λz=>nomatch z)]))];refine Zg (dh rfl (ux (mw []))) (Zg (dh (a:=.tup (ks.map D.str)) rfl rfl) rfl rfl) ?_;simp only[dg,jY,jZ,j4,j5,j6];rw[decide_eq_true]
   .rfl
   .rw[Yg,Yg,Yo,Yg,F.len];rfl
  refine(Zy (mW c0)).trans ?_;have r0:(bA (Za (e2 aM (Zb 1) (eC (.int 0))) (Zf))) [Ya (.str (fK nm is)),Ya (.ref M.length),Ya (.tup (ks.map D.str)),Ye,Ye,Ye,Ye] (M++[.lst ((nm::is.map Zd).map D.str)])= .ok (.ref (M.length+1)) (M++[.lst ((nm::is.map Zd).map D.str),.lst [.str nm]]):=by have q:=Zn (wn [Ya (.str (fK nm is)),Ya (.ref M.length),Ya (.tup (ks.map D.str)),Ye,Ye,Ye,Ye] [] rfl) (g:=Zf) rfl;simp only[bA,q,R3.bind];rw[if_pos (show[D.str nm].length<=SZ from(by decide:1<=SZ))];simp only[alloc,Yi,Yk,jC,Nt]
  refine(Zy (b_ r0)).trans ?_;have z0:(pN (Zb 2) (aW (Zb 1) (aN (eC (.int 1))) (aV))) [Ya (.str (fK nm is)),Ya (.ref M.length),Ya (.tup (ks.map D.str)),Ya (.ref (M.length+1)),Ye,Ye,Ye] (M++[.lst ((nm::is.map Zd).map D.str),.lst [.str nm]])= .ok ⟨gn (ks.map D.str) (is.map λn=>D.str (Zd n)),[(M.length+2,is.map λn=>D.str (Zd n))]⟩ (M++[.lst ((nm::is.map Zd).map D.str),.lst [.str nm],.lst (is.map λn=>D.str (Zd n))]):=by
   have e1:cutD ((nm::is.map Zd).map D.str) (Ya 1) Ye=is.map λn=>D.str (Zd n):=(oF ((nm::is.map Zd).map D.str) 1).trans (by rw[Yy,Dm];rfl);have e2:(M++[.lst ((nm::is.map Zd).map D.str),.lst [.str nm],.lst (is.map λn=>D.str (Zd n))])[M.length+2]?=Ya (.lst (is.map λn=>D.str (Zd n))):=by rw[uw];rfl
   have e3:(aW (Zb 1) (aN (eC (.int 1))) (aV)) [Ya (.str (fK nm is)),Ya (.ref M.length),Ya (.tup (ks.map D.str)),Ya (.ref (M.length+1)),Ye,Ye,Ye] (M++[.lst ((nm::is.map Zd).map D.str),.lst [.str nm]])= .ok (.ref (M.length+2)) (M++[.lst ((nm::is.map Zd).map D.str),.lst [.str nm],.lst (is.map λn=>D.str (Zd n))]):=by simp only[aW,Zb,qj,nH,R3.bind,aN,eC,aV,lM,lO,lQ,lR,mw,e1,alloc,Yi,Yo,ju,jC,o6,tU]
   simp only[pN,e3,R3.bind,uE,e2,Zb,qj,nH,tU]
  obtain⟨x,y,z,hl⟩:=Zih (line:=.str (fK nm is)) (wd:=.ref M.length) (M:=M) (W:=.lst ((nm::is.map Zd).map D.str)) F rfl;refine(Zy (show yc _ _ _ _ _=_ from by unfold yc;rw[z0];exact hl)).trans ?_;refine qF (dh rfl (ZlN ?_));rw[uw];rfl
 .have q:∀l:List Int,eN M.length (l.map D.int)=true:=by
   intro l
   induction l with
   |nil=>rfl|cons a l ih=>simp only[Yy,eN,below,ih,vG]
  simp only[FZ,below,eN,q,vG]
theorem F_(h:f env M= .ok d M'):mZ f env M= .ok d M':=by simp only[mZ,h]
theorem Zld{f:cN}{d:List D}(h:f env M= .ok d M'):uy f env M= .ok d M':=by simp only[uy,h]
theorem qW{f:S3}{e:Zu}(h:f env M= .nx e M'):fH f env M= .nx e M':=by rw[fH,h]
theorem ZsH{f:S3}(h:f env M= .rt d M'):fH f env M= .rt d M':=by rw[fH,h]
theorem KH{f g:S3}{x:X3}(h:f env M= .exc x M'):Zo f g env M= .exc x M':=by rw[Zo,h]
theorem KJ{ps:Nat}{body:S3}{x:X3}(h:body env M= .exc x M')(hl:ds.length=ps:=by rfl)(he:ds.map Ya++Yj (n-ps) Ye=env:=by rfl):dB ps n body ds M= .exc x M':=by subst he;rw[dB,if_pos hl,h]
variable{c:List Nat}
theorem ZhA{M M1:Store}(h:g env M= .ok [d] M1):uz c g env M= .exc ⟨c,.ref M1.length⟩ (M1++[.ins (0::c) []]):=by rw[uz,h]
theorem Zh4{x:X3}(h:f env M= .exc x M'):fG f env M= .exc x M':=by rw[fG,h]
theorem Zqs{cs:List (List Nat)}{j:Nat}{b g:S3}{e:Zu}(h:b env M= .nx e M'):yd cs j b g env M= .nx e M':=by rw[yd,h]
theorem Znq{cs:List (List Nat)}{j:Nat}{b g:S3}{env e1 e2:Zu}{M M' M2:Store}{x:X3}(h:b env M= .exc x M')(hc:cs.contains x.cls=true)(hg:g (env.set j (Ya x.arg)) M'= .nx e1 M2)(he:e1.set j Ye=e2):yd cs j b g env M= .nx e2 M2:=by rw[yd,h];simp only[hc,if_true,hg,he]
theorem KN{yes no:List (List Nat)}{fs:List (List Nat×D)}(h:M[n]?=Ya (.ins (0::c) fs))(hy:yes.contains c=true):iR yes no (.ref n) M= .ok (.bl true) M:=by simp only[QQ,h,hy,if_true]
theorem KQ{yes no:List (List Nat)}{fs:List (List Nat×D)}(h:M[n]?=Ya (.ins (0::c) fs))(hy:yes.contains c=false)(hn:no.contains c=true):iR yes no (.ref n) M= .ok (.bl false) M:=by simp only[QQ,h,hy,hn,if_true,Ih,if_false]
theorem ZlY{α:Type}{enc:α->D}{it:lK}{g:G3}{body:S3}{P:Zu->Store->Prop}{o:O3}(ho:(∃x S,o= .exc x S)\/∃d S,o= .rt d S)(ok:α->Bool)(hl:∀env M,P env M->locked it M=true):∀(as:List α) (env:Zu) (M:Store),P env M ->
  (∀a∈as,∀env M,P env M->∃cF,g (enc a) env=Ya cF/\(ok a=true->∃e M',body cF M= .nx e M'/\P e M')/\(ok a=false->body cF M=o)) ->
  (as.all ok=true->∃e M',jz it g body (as.map enc) env M= .nx e M'/\P e M')/\(as.all ok=false->jz it g body (as.map enc) env M=o)
 |[],env,M,p,_=>⟨λ_=>⟨env,M,by rw[qp,ur,if_pos (hl _ _ p)],p⟩,(λh=>nomatch h)⟩|a::as,env,M,p,hs=>by
  obtain⟨cF,hg,h1,h2⟩:=hs a (Yu ..) env M p;rw[Yy,ut,if_pos (hl _ _ p),hg,o7];cases hk:ok a with
  |true=>obtain⟨e,M',hb,p'⟩:=h1 hk;have ih:=ZlY (it:=it) ho ok hl as e M' p' λd hd=>hs d (Yv _ hd);simp only[hb,N_];exact ih|false=>simp only[h2 hk,N8];refine⟨(λh=>nomatch h),λ_=>?_⟩;rcases ho with⟨x,S,rfl⟩|⟨x,S,rfl⟩<;>rfl
theorem ZlD{α:Type}{enc:α->D}{lk:List (Nat×List D)}{g:G3}{body:S3}{P:Zu->Store->Prop}{o:O3}(ho:(∃x S,o= .exc x S)\/∃d S,o= .rt d S)(ok:α->Bool)(hl:∀env M,P env M->gm lk M=true):∀(as:List α) (env:Zu) (M:Store),P env M ->
  (∀a∈as,∀env M,P env M->∃cF,g (enc a) env=Ya cF/\(ok a=true->∃e M',body cF M= .nx e M'/\P e M')/\(ok a=false->body cF M=o)) ->
  (as.all ok=true->∃e M',iy lk g body (as.map enc) env M= .nx e M'/\P e M')/\(as.all ok=false->iy lk g body (as.map enc) env M=o)
 |[],env,M,p,_=>⟨λ_=>⟨env,M,by rw[qp,v8,if_pos (hl _ _ p)],p⟩,(λh=>nomatch h)⟩|a::as,env,M,p,hs=>by
  obtain⟨cF,hg,h1,h2⟩:=hs a (Yu ..) env M p;rw[Yy,pM,if_pos (hl _ _ p),hg,o7];cases hk:ok a with
  |true=>obtain⟨e,M',hb,p'⟩:=h1 hk;have ih:=ZlD (lk:=lk) ho ok hl as e M' p' λd hd=>hs d (Yv _ hd);simp only[hb,N_];exact ih|false=>simp only[h2 hk,N8];refine⟨(λh=>nomatch h),λ_=>?_⟩;rcases ho with⟨x,S,rfl⟩|⟨x,S,rfl⟩<;>rfl
structure Sm(n:Nat)(M S:Store):Prop where
 len:M.length<=S.length
 old:∀j,j<M.length->j≠n->S[j]?=M[j]?
theorem Sm.refl(n:Nat)(M:Store):Sm n M M:=⟨Yt _,λ_ _ _=>rfl⟩
variable{S:Store}
theorem Sm.trans{T:Store}(a:Sm n M S)(b:Sm n S T):Sm n M T:=⟨Ym a.len b.len,λj h1 h2=>(b.old j (Yz h1 a.len) h2).trans (a.old j h1 h2)⟩
theorem Sm.app(n:Nat)(M G:Store):Sm n M (M++G):=⟨by rw[Yi];exact q9 _ _,λj h _=>Y6 h⟩
theorem Sm.get(k:Sm n M S){j:Nat}{o:MO}(h:M[j]?=Ya o)(hj:j≠n):S[j]?=Ya o:=(k.old j (Yn.mp h).1 hj).trans h
theorem Sm.set(n:Nat)(M:Store)(o:MO):Sm n M (M.set n o):=⟨by rw[vB];exact Yt _,λj _ h2=>Y5 (cQ h2)⟩
theorem p6{M:List α}{o:α}(h:M[n]?=Ya o):n<M.length:=(Yn.mp h).1
theorem ZlP{it:lK}{i n:Nat}{elt:E3}{env0:Zu}{S0:Store}{R:D->D->Store->Prop}(hR:∀d e S S',R d e S->Sm n S S'->R d e S')(hl:∀S,Sm n S0 S->locked it S=true):∀(ds acc:List D) (env:Zu) (S:Store),(∀d,env.set i (Ya d)=env0.set i (Ya d))->Sm n S0 S->S[n]?=Ya (.lst acc)->acc.length+ds.length<=1000 ->
  (∀d∈ds,∀S,Sm n S0 S->∃e S',elt (env0.set i (Ya d)) S= .ok e S'/\Sm n S S'/\S'[n]?=S[n]?/\R d e S') ->
  ∃(ps:List (D×D)) (S':Store),iM it (fO i) [] elt n ds env S= .ok (.ref n) S'/\Sm n S S'/\S'[n]?=Ya (.lst (acc++ps.map (·.2)))/\ps.map (·.1)=ds/\∀p∈ps,R p.1 p.2 S'
 |[],acc,env,S,_,k,hn,_,_=>⟨[],S,by rw[ZlV,if_pos (hl S k)],Sm.refl _ _,by rw[qp,iJ];exact hn,rfl,λ_ z=>nomatch z⟩|d::ds,acc,env,S,he,k,hn,hz,hs=>by
  obtain⟨e,S1,h1,k1,n1,r1⟩:=hs d (Yu ..) S k;have g1:S1[n]?=Ya (.lst acc):=n1.trans hn;have k2:Sm n S1 (S1.set n (.lst (acc++[e]))):=Sm.set ..;have g2:(S1.set n (.lst (acc++[e])))[n]?=Ya (.lst (acc++[e])):=jR (p6 g1);have la:acc.length<SZ:=by rw[Yo]at hz;exact HS (show acc.length<=1000 by omega) (by decide)
  obtain⟨ps,S',h3,k3,g3,e3,r3⟩:=ZlP hR hl ds (acc++[e]) (env.set i (Ya d)) (S1.set n (.lst (acc++[e]))) (λx=>by rw[Dl];exact he x) (k.trans (k1.trans k2)) g2 (by rw[Yi,Yk];rw[Yo]at hz;omega) (λd hd=>hs d (Yv _ hd));refine⟨(d,e)::ps,S',?_,k1.trans (k2.trans k3),by rw[g3,Yy,jC];rfl,by rw[Yy,e3],λp hp=>?_⟩
  .rw[Qy,if_pos (hl S k)];simp only[fO,ZhZ,R3.bind,if_true];rw[he d,h1];simp only[g1,if_pos la];rw[←he d];exact h3
  .rcases Y1.mp hp with rfl|hp
   .exact hR _ _ _ _ r1 (k2.trans k3)
   .exact r3 p hp
theorem Zwt{own i:Nat}{it:I3}{elt:E3}{M M1:Store}{lock:Option Nat}{R:D->D->Store->Prop}(hR:∀d e S S',R d e S->Sm M1.length S S'->R d e S')(hi:it env M= .ok ⟨ds,lock⟩ M1)(GF:∀n,lock=Ya n->M1[n]?=Ya (.lst ds))(hz:ds.length<=1000)(he:∀d∈ds,∀S,M1.length<S.length->(∀j,j<M1.length->S[j]?=M1[j]?)->∃e S',elt ((env++Yj own Ye).set i (Ya d)) S= .ok e S'/\S<+:S'/\R d e S'):
  ∃(ps:List (D×D)) (S':Store),mU it own (fO i) [] elt env M= .ok (.ref M1.length) S'/\M1<+:S'/\S'[M1.length]?=Ya (.lst (ps.map (·.2)))/\ps.map (·.1)=ds/\∀p∈ps,R p.1 p.2 S':=by
 have hk:∀S,Sm M1.length (M1++[.lst []]) S->M1.length<S.length/\∀j,j<M1.length->S[j]?=M1[j]?:=λS k=>by have l:=k.len;rw[Yi,Yk]at l;exact⟨l,λj hj=>(k.old j (by rw[Yi,Yk];omega) (eQ hj)).trans (Y6 hj)⟩
 obtain⟨ps,S',h1,k,g,e,r⟩:=ZlP (it:=⟨ds,lock⟩) (i:=i) (n:=M1.length) (elt:=elt) (env0:=env++Yj own Ye) (S0:=M1++[.lst []]) hR
  (λS k=>by
   unfold locked;cases lock with
   |none=>rfl|some n=>exact decide_eq_true (((hk S k).2 n (p6 (GF n rfl))).trans (GF n rfl))) ds [] (env++Yj own Ye) (M1++[.lst []]) (λ_=>rfl) (Sm.refl _ _) (dN ..) (by rw[ju,q_];exact hz)
  (λd hd S k=>by obtain⟨e,S1,h1,⟨G,rfl⟩,r⟩:=he d hd S (hk S k).1 (hk S k).2;exact⟨e,_,h1,Sm.app _ _ _,Y6 (hk S k).1,r⟩)
 refine⟨ps,S',by rw[ZnT hi];exact h1,?_,g,e,r⟩;obtain⟨l,o⟩:=hk S' k;refine Nr.mpr λj hj=>?_;rw[o j hj];exact Y2 hj
noncomputable abbrev GR:=List Nat×List Int
noncomputable def bV(r:GR):D:=FZ r.1 r.2
noncomputable def aC(r:GR):List Nat:=fK r.1 r.2
structure uT(rs:List GR):Prop where
 fit:∀r∈rs,∃ks,dW r.1 r.2 ks
 few:rs.length<=1000
 ne:rs≠[]
noncomputable abbrev nR:List Nat:=[78,111,82,111,108,108]
noncomputable abbrev hlt:List Nat:=[104,97,108,116]
noncomputable abbrev oH:List Nat:=[106,117,109,112]
noncomputable abbrev Ga:List Nat:=[119,104,101,110]
noncomputable def inR(n:Nat)(v:Int):Bool:=decide (0<=v/\v<(n:Int))
noncomputable def sU(n:Nat)(x:List Nat×Int):Bool:=!(decide (x.1=qU)&&!inR n x.2)
noncomputable def Sg(x:List Nat×Int):D:=.tup [.str x.1,.int x.2]
noncomputable def jn(n:Nat)(g:GR):Bool:=match tabAt g.1 di with
 |some ks=>(ks.zip g.2).all (sU n)|none=>false
noncomputable def Gb(g:GR):Bool:=decide (g.1=hlt\/g.1=oH)
noncomputable def mF(rs:List GR):Bool:=(match rs.getLast? with|some r=>Gb r|none=>false)&&rs.all (jn rs.length)
theorem Sh(h:i.natAbs<10^60):i.natAbs.log2<1000:=by
 by_cases z:i.natAbs=0
 .rw[z];decide
 .exact(Nat.log2_lt z).mpr (tX h (by decide +kernel))
theorem ZsN{a b:PySem.Str}(h:f env M= .ok (.int i) M)(hi:i.natAbs.log2<1000):∃x,yF a b f env M= .ok (.str x) M:=by unfold yF;rw[h];exact⟨_,if_pos hi⟩
theorem eq_str(a b:List Nat)(M:Store):bh (.str a) (.str b) M= .ok (.bl (decide (a=b))) M:=by simp only[bh,jY,jZ,j4,j5,j6]
theorem Zlu:∀(ks:List (List Nat)) (is:List Int),gn (ks.map D.str) (is.map D.int)=(ks.zip is).map Sg
 |[],_=>rfl|_::_,[]=>rfl|k::ks,i::is=>by rw[List.zip_cons_cons,Yy,Yy,Yy,←Zlu ks is];rfl
theorem ZlU{r:GR}(ht:tabAt r.1 di=Ya ks)(hv:env[1]?=Ya (Ya (bV r))):
  (pN (e1 (uD di) (e2 aM (Zb 1) (eC (.int 0)))) (aW (Zb 1) (aN (eC (.int 1))) (aV))) env M= .ok ⟨(ks.zip r.2).map Sg,[]⟩ M:=by
 have e0:(e1 (uD di) (e2 aM (Zb 1) (eC (.int 0)))) env M= .ok (.tup (ks.map D.str)) M:=by refine eZ (Zg (a:=bV r) (M1:=M) (by simp only[Zb,hv]) rfl (Zlq (iw _ 0))) ?_;simp only[uD,ht]
 have e1:(aW (Zb 1) (aN (eC (.int 1))) (aV)) env M= .ok (.tup (r.2.map D.int)) M:=by have q:cutD (D.str r.1::r.2.map D.int) (Ya 1) Ye=r.2.map D.int:=oF (D.str r.1::r.2.map D.int) 1;simp only[aW,Zb,hv,R3.bind,aN,eC,aV,bV,FZ,lM,lO,lQ,lR,q]
 rw[←Zlu];simp only[pN,e0,e1,R3.bind,uE,tU]
variable{rs:List GR}
theorem refuse_eq(F:uT rs)(hM:M[n]?=Ya (.lst (rs.map bV))):
  (mF rs=true->wH [.ref n] M= .ok .non M)/\(mF rs=false->wH [.ref n] M= .exc ⟨nR,.ref M.length⟩ (M++[.ins (0::nR) []])):=by
 obtain⟨q,r,e⟩:∃q r,rs=q++[r]:=⟨_,_,(List.dropLast_concat_getLast F.ne).symm⟩;have gl:rs.getLast?=Ya r:=by rw[e];simp
 have c0:(mZ (e2 Et (e2 aM (e2 aM (Zb 0) (e1 pG (eC (.int 1)))) (eC (.int 0))) (n6 (Za (eC (.str [104,97,108,116])) (Za (eC (.str [106,117,109,112])) (Zf)))))) [Ya (.ref n),Ye,Ye,Ye] M= .ok (.bl (!Gb r)) M:=by
  have g:dM (rs.map bV) (-1)=Ya (bV r):=by rw[e,nP];exact getD_last ..
  refine F_ (Zg (Zg (Zg rfl rfl (ji hM g)) rfl (Zlq (iw _ 0))) (QD rfl rfl) ?_);simp only[Et,Zre,Qt,Gb];by_cases h1:r.1=hlt
  .rw[h1];rfl
  .by_cases h2:r.1=oH
   .rw[h2];rfl
   .have:decide (r.1=hlt\/r.1=oH)=false:=decide_eq_false λz=>z.elim h1 h2;rw[this];have h3:¬hlt=r.1:=λz=>h1 z.symm;have h4:¬oH=r.1:=λz=>h2 z.symm;simp[ZqT,eY,h3,h4]
 have lp:=ZlY (enc:=bV) (it:=⟨rs.map bV,Ya n⟩) (g:=fO 1) (o:=.exc ⟨nR,.ref M.length⟩ (M++[.ins (0::nR) []])) (ho:=.inl ⟨_,_,rfl⟩)
  (body:=(qJ (pN (e1 (uD di) (e2 aM (Zb 1) (eC (.int 0)))) (aW (Zb 1) (aN (eC (.int 1))) (aV))) (ou [2,3]) (aJ (mZ (cT (e2 bh (Zb 2) (eC (.str [114,111,119]))) (e1 gW (aR mC (Za (Zb 3) (Za (Zx a_ (Za (Zb 0) (Zf))) (Zf))))))) (uz [78,111,82,111,108,108] (Za (yF "there is no row " " to go on to" (Zb 3)) (Zf))) (fH (aU)))))
  (P:=λenv M'=>∃x y z,env=[Ya (.ref n),x,y,z]/\M=M') (jn rs.length)
  (λenv M' hp=>by obtain⟨x,y,z,rfl,rfl⟩:=hp;simp only[locked,hM,decide_true]) rs [Ya (.ref n),Ye,Ye,Ye] M ⟨Ye,Ye,Ye,rfl,rfl⟩
  (fun g hg env M' hp=>by
   obtain⟨x,y,z,rfl,rfl⟩:=hp;obtain⟨ks,hk⟩:=F.fit g hg;have lq:=ZlD (enc:=Sg) (lk:=[]) (g:=ou [2,3]) (o:=.exc ⟨nR,.ref M.length⟩ (M++[.ins (0::nR) []])) (ho:=.inl ⟨_,_,rfl⟩)
    (body:=(aJ (mZ (cT (e2 bh (Zb 2) (eC (.str [114,111,119]))) (e1 gW (aR mC (Za (Zb 3) (Za (Zx a_ (Za (Zb 0) (Zf))) (Zf))))))) (uz [78,111,82,111,108,108] (Za (yF "there is no row " " to go on to" (Zb 3)) (Zf))) (fH (aU))))
    (P:=λenv M'=>∃y z,env=[Ya (.ref n),Ya (bV g),y,z]/\M=M') (sU rs.length) (λ_ _ _=>rfl) (ks.zip g.2) [Ya (.ref n),Ya (bV g),y,z] M ⟨y,z,rfl,rfl⟩
    (λp hp env M' he=>by
     obtain⟨y,z,rfl,rfl⟩:=he;obtain⟨k,v⟩:=p;have hv:v.natAbs<10^60:=hk.num v (Dk hp).2;have c:(mZ (cT (e2 bh (Zb 2) (eC (.str [114,111,119]))) (e1 gW (aR mC (Za (Zb 3) (Za (Zx a_ (Za (Zb 0) (Zf))) (Zf))))))) [Ya (.ref n),Ya (bV g),Ya (.str k),Ya (.int v)] M= .ok (.bl (!sU rs.length (k,v))) M:=by
      refine F_ ?_;unfold sU;rw[Bool.not_not];by_cases h:k=qU
      .rw[jj (M1:=M) (Zg rfl rfl ((eq_str k qU M).trans (by rw[decide_eq_true h])))];refine eZ (j9 (b:=.int (rs.map bV).length) (M2:=M) rfl (dh rfl (ux hM)) (KD v _ M)) ?_;rw[Yg,decide_eq_true h];rfl
      .rw[mX (M1:=M) (Zg rfl rfl ((eq_str k qU M).trans (by rw[decide_eq_false h]))),decide_eq_false h];rfl
     refine⟨_,rfl,λh=>?_,λh=>?_⟩
     .rw[h]at c;exact⟨_,M,(JQ c).trans (qW rfl),_,_,rfl,rfl⟩
     .rw[h]at c;obtain⟨x,hx⟩:=ZsN (a:="there is no row ") (b:=" to go on to") (f:=Zb 3) (env:=[Ya (.ref n),Ya (bV g),Ya (.str k),Ya (.int v)]) (M:=M) rfl (Sh hv);exact(iQ c).trans (ZhA (Zn hx rfl)))
   have e0:jn rs.length g=(ks.zip g.2).all (sU rs.length):=by unfold jn;rw[hk.tab]
   rw[e0];refine⟨_,rfl,λh=>?_,λh=>?_⟩
   .obtain⟨e',M',h1,y2,z2,rfl,rfl⟩:=lq.1 h;exact⟨_,M,(by unfold qJ;rw[ZlU hk.tab rfl];exact h1),Ya (bV g),y2,z2,rfl,rfl⟩
   .unfold qJ;rw[ZlU hk.tab rfl];exact lq.2 h)
 have it:(iK (Zb 0)) [Ya (.ref n),Ye,Ye,Ye] M= .ok ⟨rs.map bV,Ya n⟩ M:=by simp only[iK,Zb,nH,R3.bind,hM]
 have gB:mF rs=(Gb r&&rs.all (jn rs.length)):=by unfold mF;rw[gl]
 rw[gB];cases h1:Gb r with
 |false=>refine⟨(λz=>nomatch z),λ_=>?_⟩;rw[h1]at c0;exact KJ (ps:=1) (n:=4) (ds:=[.ref n]) (env:=[Ya (.ref n),Ye,Ye,Ye]) (by unfold Fw;exact KH ((iQ c0).trans (ZhA (Zn rfl rfl))))|true=>
  rw[h1]at c0;have go:∀o,Am (iK (Zb 0)) (fO 1) (qJ (pN (e1 (uD di) (e2 aM (Zb 1) (eC (.int 0)))) (aW (Zb 1) (aN (eC (.int 1))) (aV))) (ou [2,3]) (aJ (mZ (cT (e2 bh (Zb 2) (eC (.str [114,111,119]))) (e1 gW (aR mC (Za (Zb 3) (Za (Zx a_ (Za (Zb 0) (Zf))) (Zf))))))) (uz [78,111,82,111,108,108] (Za (yF "there is no row " " to go on to" (Zb 3)) (Zf))) (fH (aU)))) [Ya (.ref n),Ye,Ye,Ye] M=o->Fw [Ya (.ref n),Ye,Ye,Ye] M=o:=λo h=>by unfold Fw;exact(Zy ((JQ c0).trans (qW rfl))).trans h
  rw[N_];refine⟨λh=>?_,λh=>?_⟩
  .obtain⟨e',M',h2,_,_,_,rfl,rfl⟩:=lp.1 h;have q:=ZrU (ps:=1) (n:=4) (ds:=[.ref n]) (env:=[Ya (.ref n),Ye,Ye,Ye]) (go _ (by unfold Am;rw[it];exact h2));exact q.trans (ZmC rfl)
  .exact KJ (ps:=1) (n:=4) (ds:=[.ref n]) (env:=[Ya (.ref n),Ye,Ye,Ye]) (go _ (by unfold Am;rw[it];exact lp.2 h))
theorem Zmv(F:uT rs):(∀t∈rs.map aC,t.length<=248)/\lU [10] (rs.map aC)<=SZ/\(glue [10] (rs.map aC)).length+2<=SZ:=by
 have h:∀t∈rs.map aC,t.length<=248:=by intro t ht;obtain⟨r,hr,rfl⟩:=jD.mp ht;obtain⟨ks,hk⟩:=F.fit r hr;exact(sS hk.few.1 hk.few.2 hk.num).2
 obtain⟨a,b⟩:=Cj 10 248 _ h;have e:(rs.map aC).length*(248+1)<=249000:=by rw[Yg];have:=F.few;omega
 exact⟨h,Ym a (Ym e (by decide)),Ym (Dp (Ym b e) 2) (by decide)⟩
theorem Zh6{nm:List Nat}(ha:∀c∈nm,97<=c)(h:∀n∈is,n.natAbs<10^60):∀c∈fK nm is,32<=c:=by
 have gen:∀ts:List (List Nat),(∀t∈ts,∀c∈t,32<=c)->∀c∈glue [32] ts,32<=c:=by
  intro ts
  induction ts with
  |nil=>intro _ c hc;exact nomatch hc|cons t ts ih=>
   intro h c hc;cases ts with
   |nil=>exact h t (Yu ..) c hc|cons u ts=>
    rw[sI]at hc;rcases gk.mp hc with hc|hc
    .exact h t (Yu ..) c hc
    .rcases gk.mp hc with hc|hc
     .rw[nJ.mp hc];exact Yt _
     .exact ih (λq hq=>h q (Yv _ hq)) c hc
 refine gen _ λt ht=>?_;rcases Y1.mp ht with e|ht
 .rw[e];exactλc hc=>Ym (by decide) (ha c hc)
 .obtain⟨i,hi,rfl⟩:=jD.mp ht
  exactλc hc=>Ym (by decide) ((uR i (h i hi)).2.2 c hc)
theorem Zjp(F:uT rs):lV (glue [10] (rs.map aC)) [10]=rs.map aC:=by refine FN 10 _ (λz=>F.ne (Nv.mp z)) λt ht=>?_;obtain⟨r,hr,rfl⟩:=jD.mp ht;obtain⟨ks,hk⟩:=F.fit r hr;exactλz=>absurd (Zh6 hk.abc hk.num 10 z) (by decide)
theorem Zjf(n:Nat):∀l:List Int,eN n (l.map D.int)=true
 |[]=>rfl|a::l=>by simp only[Yy,eN,below,Zjf n l,vG]
theorem Zj1(n:Nat):∀l:List GR,eN n (l.map bV)=true
 |[]=>rfl|a::l=>by simp only[Yy,eN,bV,FZ,below,Zjf,Zj1 n l,vG]
theorem Zms(n:Nat)(l:List GR):below n (.tup (l.map bV))=true:=by simp only[below,Zj1]
theorem ZkU(F:uT rs)(M:Store):(mF rs=true->uN [.str (glue [10] (rs.map aC))] M= .ok (.tup (rs.map bV)) M)/\
  (mF rs=false->uN [.str (glue [10] (rs.map aC))] M= .exc ⟨nR,.ref (M.length+2)⟩ (M++[.lst (rs.map bV),.lst ((rs.map aC).map D.str),.ins (0::nR) []])):=by
 have Z:=Zmv F;have sp:(aZ bC mY (Zb 0) (Za (eC (.str [10])) (Zf))) [Ya (.str (glue [10] (rs.map aC))),Ya (.ref M.length),Ye,Ye,Ye] (M++[.lst []])= .ok (.ref (M.length+1)) (M++[.lst [],.lst ((rs.map aC).map D.str)]):=by refine oG (d:=.str [10]) rfl rfl ?_;simp only[Al,Zjp F];rw[if_pos ⟨by decide,Z.2.2⟩];simp only[alloc,Yi,Yk,jC,Nt]
 have en:(Ao (aZ bC mY (Zb 0) (Za (eC (.str [10])) (Zf)))) [Ya (.str (glue [10] (rs.map aC))),Ya (.ref M.length),Ye,Ye,Ye] (M++[.lst []])= .ok ⟨lX 1 ((rs.map aC).map D.str),[(M.length+1,(rs.map aC).map D.str)]⟩ (M++[.lst [],.lst ((rs.map aC).map D.str)]):=by
  have g:(M++[.lst [],.lst ((rs.map aC).map D.str)])[M.length+1]?=Ya (.lst ((rs.map aC).map D.str)):=by rw[uw];rfl
  simp only[Ao,sp,R3.bind,g]
 obtain⟨e',M',hl,x,y,z,rfl,rfl⟩:=QJ (lk:=[(M.length+1,(rs.map aC).map D.str)]) (g:=ou [2,3])
  (body:=(Zo (fH (aD 4 (aR uM (Za (Zb 3) (Zf))))) (Zo (aJ (mZ (e2 pH (Zb 4) (eC .non))) (yD [66,97,100,82,111,119] [114,111,119] (Za (Zb 2) (Zf))) (fH (aU))) (fH (fG (aZ j7 pK (Zb 1) (Za (Zb 4) (Zf))))))))
  (P:=λj env M'=>∃x y z,env=[Ya (.str (glue [10] (rs.map aC))),Ya (.ref M.length),x,y,z]/\M'=M++[.lst ((rs.take j).map bV),.lst ((rs.map aC).map D.str)])
  (lX 1 ((rs.map aC).map D.str)) 0 [Ya (.str (glue [10] (rs.map aC))),Ya (.ref M.length),Ye,Ye,Ye] (M++[MO.lst [],MO.lst ((rs.map aC).map D.str)]) ⟨Ye,Ye,Ye,rfl,rfl⟩
  (λj env M' hp=>by obtain⟨x,y,z,rfl,rfl⟩:=hp;simp[gm,uw])
  (λi d env M' hd hp=>by
   obtain⟨x,y,z,rfl,rfl⟩:=hp;rw[QG,gO,gO]at hd;cases hr:rs[i]? with
   |none=>rw[hr]at hd;cases hd|some r=>
    rw[hr]at hd;cases hd;obtain⟨ks,hk⟩:=F.fit r (q8 hr);rw[q_];refine⟨_,rfl,.inl ⟨[Ya (.str (glue [10] (rs.map aC))),Ya (.ref M.length),Ya (.int ((1+i:Nat):Int)),Ya (.str (aC r)),Ya (bV r)],M++[.lst ((rs.take (i+1)).map bV),.lst ((rs.map aC).map D.str)],?_,_,_,_,rfl,rfl⟩⟩;have c1:∀M0,(aR uM (Za (Zb 3) (Zf))) [Ya (.str (glue [10] (rs.map aC))),Ya (.ref M.length),Ya (.int ((1+i:Nat):Int)),Ya (.str (aC r)),z] M0= .ok (bV r) M0:=λM0=>x_ rfl (ZgN hk M0);refine(Zy (qW (b_ (c1 _)))).trans ?_;refine(Zy ((JQ (F_ (Zg rfl rfl (show pH (bV r) .non _=_ from by simp only[z8];rw[decide_eq_false (λz=>nomatch z)])))).trans (qW rfl))).trans ?_;have e:(rs.take (i+1)).map bV=(rs.take i).map bV++[bV r]:=by rw[VJ,hr,nP];rfl
    have hz:((rs.take i).map bV).length<SZ:=by have:=F.few;rw[Yg,Y7];simp only[SZ];exact lB 2 0xf42405b1101013e83b001 T1 this (Dq _ _)
    rw[e];refine qW (xZ (d:=.non) ?_);have g1:(M++[MO.lst ((rs.take i).map bV),.lst ((rs.map aC).map D.str)])[M.length]?=Ya (.lst ((rs.take i).map bV)):=dN ..;have s1:(M++[MO.lst ((rs.take i).map bV),.lst ((rs.map aC).map D.str)]).set M.length (.lst ((rs.take i).map bV++[bV r]))=M++[.lst ((rs.take i).map bV++[bV r]),.lst ((rs.map aC).map D.str)]:=QB M _ 0 _;simp only[aZ,Zb,qj,nH,R3.bind,Eu,g1,if_true,Za,Zf,JN,if_pos hz,s1])
 have e:0+(lX 1 ((rs.map aC).map D.str)).length=rs.length:=by rw[QH,Yg,Yg,q_]
 rw[e,VR]at hl;have g1:(M++[.lst (rs.map bV),.lst ((rs.map aC).map D.str)])[M.length]?=Ya (.lst (rs.map bV)):=dN ..;have hb:∀o,(Zo (fG (aR wH (uy (Za (Zb 1) (Zf))))) (fH (aK (Zx uq (Za (Zb 1) (Zf)))))) [Ya (.str (glue [10] (rs.map aC))),Ya (.ref M.length),x,y,z] (M++[.lst (rs.map bV),.lst ((rs.map aC).map D.str)])=o->Fx [Ya (.str (glue [10] (rs.map aC))),Ye,Ye,Ye,Ye] M=o:=λo h=>by unfold Fx;refine(Zy (qW (b_ (d:=.ref M.length) (M':=M++[.lst []]) (by simp only[bA,Zf,R3.bind];rw[if_pos (show([]:List D).length<=SZ by decide)];rfl)))).trans ?_;exact(Zy (show qJ _ _ _ _ _=_ from by unfold qJ;rw[en];exact hl)).trans h
 have R:=refuse_eq F g1;refine⟨λh=>?_,λh=>?_⟩
 .refine Rt.pure (G:=[.lst (rs.map bV),.lst ((rs.map aC).map D.str)]) (env:=[Ya (.str (glue [10] (rs.map aC))),Ye,Ye,Ye,Ye]) (hb _ ?_) ?_
  .exact(Zy (xZ ((show aR wH _ _ _=_ from by simp only[aR,Zld (Zn (g:=Zf) (show(Zb 1) [Ya (.str (glue [10] (rs.map aC))),Ya (.ref M.length),x,y,z] _= .ok (.ref M.length) _ from rfl) rfl),R3.bind];exact R.1 h)))).trans (ZsH (qF (dh rfl (ZlN g1))))
  .exact Zms _ _
 .refine(KJ (ps:=1) (n:=5) (ds:=[.str (glue [10] (rs.map aC))]) (env:=[Ya (.str (glue [10] (rs.map aC))),Ye,Ye,Ye,Ye]) (hb _ (KH (Zh4 (show aR wH _ _ _=_ from by simp only[aR,Zld (Zn (g:=Zf) (show(Zb 1) [Ya (.str (glue [10] (rs.map aC))),Ya (.ref M.length),x,y,z] _= .ok (.ref M.length) _ from rfl) rfl),R3.bind];exact R.2 h))))).trans ?_;rw[Yi,jC];rfl
noncomputable def fV(w:List Nat):List Nat:=match w with
 |45::r=>r|w=>w
noncomputable def jG(w:List Nat):Bool:=(decide (1<=(fV w).length)&&decide ((fV w).length<=60))&&(if(fV w).head?=Ya 48 then decide (w=[48])else(fV w).all λc=>decide (c∈sO))
theorem ZoX(w:List Nat):(fV w).length<=w.length:=by
 unfold fV;split
 .exact N7 _
 .exact Yt _
theorem ZuS(c:Nat)(w:List Nat):([c]:List Nat).isPrefixOf w=decide (w.head?=Ya c):=by
 cases w with
 |nil=>rfl|cons d r=>
  show((c==d)&&NK [] r)=_;by_cases h:c=d
  .subst h;simp
  .have:decide ((d::r).head?=Ya c)=false:=decide_eq_false λz=>h (eE z).symm;rw[beq_eq_false_iff_ne.mpr h,this];rfl
variable{w:List Nat}
theorem ZhI(hw:w.length<=1000)(M:Store):pY [.str w] M= .ok (.bl (jG w)) M:=by
 have hz:w.length<=SZ:=Ym hw (by decide);have hf:(um (aZ bC pJ (Zb 0) (Za (eC (.str [45])) (Zf))) (aW (Zb 0) (aN (eC (.int 1))) (aV)) (Zb 0)) [Ya (.str w),Ye] M= .ok (.str (fV w)) M:=by
  have c:(aZ bC pJ (Zb 0) (Za (eC (.str [45])) (Zf))) [Ya (.str w),Ye] M= .ok (.bl (decide (w.head?=Ya 45))) M:=by refine oG (d:=.str [45]) rfl rfl ?_;simp only[Ah];rw[if_pos ⟨hz,by decide⟩,ZuS]
  by_cases h:w.head?=Ya 45
  .rw[decide_eq_true h]at c;rw[ZqW (M1:=M) c];cases w with
   |nil=>cases h|cons d r=>obtain rfl:d=45:=eE h;have e:cutD (45::r) (Ya 1) Ye=r:=oF (45::r) 1;simp only[aW,Zb,aN,aV,eC,R3.bind,nH,lM,lO,lQ,lR,if_pos hz,e];rfl
  .rw[decide_eq_false h]at c;rw[ZqX (M1:=M) c];have e:fV w=w:=by
    unfold fV;split
    .exact absurd rfl h
    .rfl
   rw[e];rfl
 have hl:=Ym (ZoX w) hz;have ln:(Zx a_ (Za (Zb 1) (Zf))) [Ya (.str w),Ya (.str (fV w))] M= .ok (.int (fV w).length) M:=dh (a:=.str (fV w)) rfl (by simp only[z_,Aa,Ab,rP,if_pos hl]);have no:∀G b,(Zo (aJ (jh (e2 qy (Zx a_ (Za (Zb 1) (Zf))) (eC (.int 1))) (e2 eX (Zx a_ (Za (Zb 1) (Zf))) (nC))) (aK (eC (.bl false))) (aU)) (Zo (aJ (aZ bC pJ (Zb 1) (Za (eC (.str [48])) (Zf))) (aK (e2 bh (Zb 0) (eC (.str [48])))) (aU)) (aK (Zx Af (Za (mU (iK (Zb 1)) 1 (fO 2) [] (e2 jy (Zb 2) (sW))) (Zf)))))) [Ya (.str w),Ya (.str (fV w))] M= .rt (.bl b) (M++G)->jG w=b->pY [.str w] M= .ok (.bl (jG w)) M:=λG b h e=>by rw[e];refine Rt.pure (G:=G) (env:=[Ya (.str w),Ye]) ?_ rfl;unfold Fv;exact(Zy (b_ hf)).trans h
 by_cases h1:1<=(fV w).length
 .have l1:(e2 qy (Zx a_ (Za (Zb 1) (Zf))) (eC (.int 1))) [Ya (.str w),Ya (.str (fV w))] M= .ok (.bl false) M:=Zg ln rfl (by simp only[z7];rw[decide_eq_false (by omega)]);by_cases h2:(fV w).length<=60
  .by_cases h3:(fV w).head?=Ya 48
   .refine no [] (decide (w=[48])) ?_ (by unfold jG;rw[decide_eq_true h1,decide_eq_true h2,if_pos h3];rfl);rw[iJ];refine(Zy (mW ((qG l1).trans (Zg ln (g:=nC) (b:=.int 60) rfl (by simp only[vX];rw[decide_eq_false (by omega)]))))).trans (qD ((iQ (oG (d:=.str [48]) rfl rfl ?_)).trans (qF (Zg rfl rfl (eq_str _ _ _)))));simp only[Ah];rw[if_pos ⟨hl,by decide⟩,ZuS,decide_eq_true h3]
   .refine no _ _ (ZgV h1 h2 λr e=>h3 (by rw[e];rfl)) (by unfold jG;rw[decide_eq_true h1,decide_eq_true h2,if_neg h3];rfl)
  .refine no [] false ?_ (by unfold jG;rw[decide_eq_false h2,Du];rfl);rw[iJ];exact qD ((iQ ((qG l1).trans (Zg ln (g:=nC) (b:=.int 60) rfl (by simp only[vX];rw[decide_eq_true (by omega)])))).trans rfl)
 .refine no [] false ?_ (by unfold jG;rw[decide_eq_false h1];rfl);rw[iJ];exact qD ((iQ (ZqP (Zg ln rfl (by simp only[z7];rw[decide_eq_true (by omega)])))).trans rfl)
structure Gd(ws:List (List Nat)):Prop where
 ne:ws≠[]
 free:∀w∈ws,32∉w/\10∉w/\w.length<=200
 few:ws.length<=20
structure jo(t:List Nat):Prop where
 nl:10∉t
 len:t.length<=5000
 rd:∀M,uM [.str t] M= .ok .non M
theorem Zjn{c s:Nat}:∀{ws:List (List Nat)},c∈glue [s] ws->c=s\/∃w∈ws,c∈w
 |[],h=>nomatch h|[w],h=>.inr ⟨w,nJ.mpr rfl,h⟩|w::v::ws,h=>by
  rw[sI]at h;rcases gk.mp h with h|h
  .exact .inr ⟨w,Yu ..,h⟩
  .rcases gk.mp h with h|h
   .exact .inl (nJ.mp h)
   .rcases Zjn h with h|⟨u,hu,h⟩
    .exact .inl h
    .exact .inr ⟨u,Yv _ hu,h⟩
variable{ws:List (List Nat)}
theorem Gd.le(W:Gd ws):(glue [32] ws).length<=5000:=by have:=(Cj 32 200 ws λt ht=>(W.free t ht).2.2).2;have:=W.few;have:ws.length*(200+1)<=20*201:=Ia W.few (Yt _);omega
theorem Gd.nl(W:Gd ws):10∉glue [32] ws:=λh=>by
 rcases Zjn h with h|⟨w,hw,h⟩
 .exact absurd h (by decide)
 .exact(W.free w hw).2.1 h
noncomputable def wL:S3:=(Zo (aJ (e1 gW (aR pY (Za (Zb 5) (Zf)))) (aK (eC .non)) (aU)) (Zo (aD 6 (Zx lW (Za (Zb 5) (Zf)))) (Zo (aJ (cT (e2 bh (Zb 4) (eC (.str [98,111,120]))) (e1 gW (aR mC (Za (Zb 6) (Za (p8) (Zf)))))) (aK (eC .non)) (aU)) (fG (aZ j7 pK (Zb 3) (Za (Zb 6) (Zf)))))))
def Ge(k w:List Nat):Prop:=w.length<=1000/\(jG w=false\/∃i:Int,w=Zd i/\i.natAbs<10^60/\k=bx/\¬(0<=i/\i<8))
def Sq(k w:List Nat):Prop:=∃i:Int,w=Zd i/\i.natAbs<10^60/\(k=bx->0<=i/\i<8)
theorem Zte{e0 e1' e2' e3 x y z:Option D}{k w:List Nat}(h:Ge k w):wL [e0,e1',e2',e3,Ya (.str k),Ya (.str w),z] S= .rt .non S:=by
 unfold wL;have c1:(e1 gW (aR pY (Za (Zb 5) (Zf)))) [e0,e1',e2',e3,Ya (.str k),Ya (.str w),z] S= .ok (.bl (!jG w)) S:=eZ (x_ rfl (ZhI h.1 S)) rfl;rcases h.2 with h2|⟨i,rfl,hi,rfl,hb⟩
 .rw[h2]at c1;exact qD ((iQ c1).trans rfl)
 .obtain⟨r1,r2,r3⟩:=uR i hi;have nb:jG (Zd i)=true:=by
   have a:=ZhI h.1 [];rw[Sd hi]at a;injection a with a;injection a with a;exact a.symm
  rw[nb]at c1;refine(Zy (mW c1)).trans ?_;refine(Zy (b_ (d:=.int i) (M':=S) (dh (a:=.str (Zd i)) rfl (by simp only[JR,JS,r1];rw[if_pos (Ym r2 (by decide))])))).trans ?_;refine qD ((iQ ((jj (M1:=S) (Zg rfl rfl ((eq_str _ _ _).trans rfl))).trans (eZ (j9 rfl rfl (KD i 8 S)) ?_))).trans rfl);rw[decide_eq_false hb];rfl
theorem Zqr{e0 e1' e2' x y z:Option D}{k w:List Nat}(h:Sq k w)(hn:S[n]?=Ya (.lst xs))(hx:xs.length<=100):∃i,wL [e0,e1',e2',Ya (.ref n),Ya (.str k),Ya (.str w),z] S= .nx [e0,e1',e2',Ya (.ref n),Ya (.str k),Ya (.str w),Ya (.int i)] (S.set n (.lst (xs++[.int i]))):=by
 obtain⟨i,rfl,hi,hb⟩:=h;refine⟨i,?_⟩;obtain⟨r1,r2,r3⟩:=uR i hi;unfold wL;refine(Zy (mW (eZ (x_ rfl (Sd hi S)) rfl))).trans ?_;refine(Zy (b_ (d:=.int i) (M':=S) (dh (a:=.str (Zd i)) rfl (by simp only[JR,JS,r1];rw[if_pos (Ym r2 (by decide))])))).trans ?_;have c3:(cT (e2 bh (Zb 4) (eC (.str [98,111,120]))) (e1 gW (aR mC (Za (Zb 6) (Za (p8) (Zf)))))) [e0,e1',e2',Ya (.ref n),Ya (.str k),Ya (.str (Zd i)),Ya (.int i)] S= .ok (.bl false) S:=by
  by_cases q:k=bx
  .rw[jj (M1:=S) (Zg rfl rfl ((eq_str _ _ _).trans (by rw[decide_eq_true q])))];refine eZ (j9 rfl rfl (KD i 8 S)) ?_;rw[decide_eq_true (hb q)];rfl
  .exact mX (M1:=S) (Zg rfl rfl ((eq_str _ _ _).trans (by rw[decide_eq_false q])))
 refine(Zy (mW c3)).trans ?_;exact Znj (o:=Zb 3) (t:=Zb 6) rfl hn rfl hn (HS hx (by decide))
theorem ZlJ{lk:Nat}{vs:List D}{e0 e1' e2':Option D}:∀(pre:List (List Nat×List Nat)) (k w:List Nat) (post:List D) (x y z:Option D) (S:Store) (n:Nat) (xs:List D),S[lk]?=Ya (.lst vs)->lk≠n->S[n]?=Ya (.lst xs)->xs.length+pre.length<=100->(∀p∈pre,Sq p.1 p.2)->Ge k w ->
  ∃S',iy [(lk,vs)] (ou [4,5]) wL ((pre.map λp=>D.tup [.str p.1,.str p.2])++ .tup [.str k,.str w]::post) [e0,e1',e2',Ya (.ref n),x,y,z] S= .rt .non S'/\S'.length=S.length/\∀j,j≠n->S'[j]?=S[j]?
 |[],k,w,post,x,y,z,S,n,xs,hlk,_,hn,_,_,hb=>by refine⟨S,?_,rfl,λ_ _=>rfl⟩;rw[qp,tU,pM,if_pos (by simp[gm,hlk])];show(match wL [e0,e1',e2',Ya (.ref n),Ya (.str k),Ya (.str w),z] S with| .nx e M'=>_| .ct e M'=>_| .bk e M'=>_|o=>o)=_;rw[Zte (x:=x) (y:=y) hb]
 |p::pre,k,w,post,x,y,z,S,n,xs,hlk,hne,hn,hz,hg,hb=>by obtain⟨i,hi⟩:=Zqr (e0:=e0) (e1':=e1') (e2':=e2') (x:=x) (y:=y) (z:=z) (hg p (Yu ..)) hn (by rw[Yo]at hz;omega);obtain⟨S',h1,h2,h3⟩:=ZlJ pre k w post (Ya (.str p.1)) (Ya (.str p.2)) (Ya (.int i)) (S.set n (.lst (xs++[.int i]))) n (xs++[.int i]) (by rw[Y5 (cQ hne)];exact hlk) hne (jR (p6 hn)) (by rw[Yi,Yk];rw[Yo]at hz;omega) (λq hq=>hg q (Yv _ hq)) hb;refine⟨S',?_,by rw[h2,vB],λj hj=>(h3 j hj).trans (Y5 (cQ hj))⟩;rw[Yy,o6,pM,if_pos (by simp[gm,hlk])];show(match wL [e0,e1',e2',Ya (.ref n),Ya (.str p.1),Ya (.str p.2),z] S with| .nx e M'=>_| .ct e M'=>_| .bk e M'=>_|o=>o)=_;rw[hi];exact h1
inductive yP:List (List Nat)->Prop
 |head {w:List Nat} {vs:List (List Nat)} (h:tabAt w di=Ye):yP (w::vs)
 |num {w:List Nat} {vs ks:List (List Nat)} (h:tabAt w di=Ya ks) (hl:vs.length≠ks.length):yP (w::vs)
 |word {w k v:List Nat} {post p_:List (List Nat)} (pre:List (List Nat×List Nat)) (h:tabAt w di=Ya (pre.map (·.1)++k::p_)) (hl:p_.length=post.length) (hp:∀p∈pre,Sq p.1 p.2) (hb:Ge k v) (hz:pre.length<=50):yP (w::(pre.map (·.2)++v::post))
theorem ZlB:∀(pre:List (List Nat×List Nat)) (k v:List Nat) (kp vp:List (List Nat)),gn ((pre.map (·.1)++k::kp).map D.str) ((pre.map (·.2)++v::vp).map D.str)=(pre.map λp=>D.tup [.str p.1,.str p.2])++ .tup [.str k,.str v]::gn (kp.map D.str) (vp.map D.str)
 |[],_,_,_,_=>rfl|p::pre,k,v,kp,vp=>by have h:=ZlB pre k v kp vp;show D.tup [.str p.1,.str p.2]::gn ((pre.map (·.1)++k::kp).map D.str) ((pre.map (·.2)++v::vp).map D.str)=_;rw[h];rfl
theorem Zns(W:Gd ws)(B:yP ws):jo (glue [32] ws):=by
 refine⟨W.nl,W.le,λM=>?_⟩;have hsp:lV (glue [32] ws) [32]=ws:=FN 32 _ W.ne λt ht=>(W.free t ht).1;obtain⟨w,vs,rfl⟩:∃w vs,ws=w::vs:=by
  cases ws with
  |nil=>exact absurd rfl W.ne|cons w vs=>exact⟨w,vs,rfl⟩
 obtain⟨L,hL⟩:∃L,L=(w::vs).map D.str:=⟨_,rfl⟩;obtain⟨t,ht⟩:∃t,t=glue [32] (w::vs):=⟨_,rfl⟩;have w0:(aZ bC mY (Zb 0) (Za (eC (.str [32])) (Zf))) [Ya (.str t),Ye,Ye,Ye,Ye,Ye,Ye] M= .ok (.ref M.length) (M++[.lst L]):=by refine oG (d:=.str [32]) rfl rfl ?_;simp only[Al,ht,hsp];rw[if_pos ⟨by decide,by have:=W.le;simp only[SZ];omega⟩,hL];rfl
 have mw:(M++[MO.lst L])[M.length]?=Ya (.lst L):=dN ..;have i0:∀{b c d e f:Option D} {S:Store},S[M.length]?=Ya (.lst L)->(e2 aM (Zb 1) (eC (.int 0))) [Ya (.str t),Ya (.ref M.length),b,c,d,e,f] S= .ok (.str w) S:=λg=>Zg rfl rfl (ji g (by rw[hL];exact iw _ 0));rw[←ht];have go:∀G,yI [Ya (.str t),Ye,Ye,Ye,Ye,Ye,Ye] M= .rt .non (M++G)->uM [.str t] M= .ok .non M:=λG h=>Rt.pure (env:=[Ya (.str t),Ye,Ye,Ye,Ye,Ye,Ye]) h rfl;have some_:∀{ks:List (List Nat)} {o:O3},tabAt w di=Ya ks->(Zo (aJ (jh (e2 pH (Zb 2) (eC .non)) (e2 dg (Zx a_ (Za (Zb 1) (Zf))) (e2 Zk (Zx a_ (Za (Zb 2) (Zf))) (eC (.int 1))))) (aK (eC .non)) (aU)) (Zo (aD 3 (bA (Za (e2 aM (Zb 1) (eC (.int 0))) (Zf)))) (Zo (yc (pN (Zb 2) (aW (Zb 1) (aN (eC (.int 1))) (aV))) (ou [4,5]) wL) (aK (Zx uq (Za (Zb 3) (Zf))))))) [Ya (.str t),Ya (.ref M.length),Ya (.tup (ks.map D.str)),Ye,Ye,Ye,Ye] (M++[.lst L])=o->yI [Ya (.str t),Ye,Ye,Ye,Ye,Ye,Ye] M=o:=λ{ks o} h1 h2=>by unfold yI;refine(Zy (b_ w0)).trans ?_;refine(Zy (b_ (d:=.tup (ks.map D.str)) (M':=M++[.lst L]) (eZ (i0 mw) (by simp only[v9,h1])))).trans ?_;exact h2
 have cn:∀{ks:List (List Nat)},(jh (e2 pH (Zb 2) (eC .non)) (e2 dg (Zx a_ (Za (Zb 1) (Zf))) (e2 Zk (Zx a_ (Za (Zb 2) (Zf))) (eC (.int 1))))) [Ya (.str t),Ya (.ref M.length),Ya (.tup (ks.map D.str)),Ye,Ye,Ye,Ye] (M++[.lst L])= .ok (.bl (!decide (vs.length=ks.length))) (M++[.lst L]):=λ{ks}=>by
  rw[qG (M1:=M++[.lst L]) (Zg rfl rfl (by simp only[z8];rw[decide_eq_false (λz=>nomatch z)]))];refine Zg (dh rfl (ux mw)) (Zg (dh (a:=.tup (ks.map D.str)) rfl rfl) rfl rfl) ?_;simp only[dg,jY,jZ,j4,j5,j6];have:decide ((L.length:Int)=((ks.map D.str).length:Int)+1)=decide (vs.length=ks.length):=by
   rw[hL,Yg,Yg,Yo];by_cases h:vs.length=ks.length
   .rw[decide_eq_true h,decide_eq_true (by omega)]
   .rw[decide_eq_false h,decide_eq_false (by omega)]
  rw[this]
 cases B with
 |head h=>refine go [.lst L] ?_;unfold yI;refine(Zy (b_ w0)).trans ((Zy (b_ (d:=.non) (M':=M++[.lst L]) (eZ (i0 mw) (by simp only[v9,h])))).trans (qD ((iQ (ZqP (Zg rfl rfl ?_))).trans rfl)));simp only[z8];rfl|num h hl=>refine go [.lst L] (some_ h ?_);have c:=cn (ks:=‹List (List Nat)›);rw[decide_eq_false hl]at c;exact qD ((iQ c).trans rfl)|word pre h hl hp hb hz=>
  rename_i k v post p_;have c:=cn (ks:=pre.map (·.1)++k::p_);rw[decide_eq_true (by simp only[Yi,Yg,Yo,hl])]at c;have r0:=wJ (Zn (i0 (b:=Ya (.tup ((pre.map (·.1)++k::p_).map D.str))) (c:=Ye) (d:=Ye) (e:=Ye) (f:=Ye) mw) (g:=Zf) rfl) rfl;have vL:cutD L (Ya 1) Ye=(pre.map (·.2)++v::post).map D.str:=by rw[hL];exact oF (D.str w::(pre.map (·.2)++v::post).map D.str) 1
  obtain⟨S1,hS1⟩:∃S1,S1=M++[MO.lst L]++[.lst [.str w]]:=⟨_,rfl⟩;rw[←hS1]at r0;have l1:S1.length=M.length+2:=by rw[hS1];simp
  have gL:S1[M.length]?=Ya (.lst L):=by rw[hS1];exact Ak mw _
  obtain⟨V,hV⟩:∃V,V=(pre.map (·.2)++v::post).map D.str:=⟨_,rfl⟩;have gV:(S1++[MO.lst V])[S1.length]?=Ya (.lst V):=dN ..;have gR:(S1++[MO.lst V])[M.length+1]?=Ya (.lst [.str w]):=by
   have q:S1[M.length+1]?=Ya (.lst [.str w]):=by rw[hS1,jC,uw];rfl
   exact Ak q _
  have z0:(pN (Zb 2) (aW (Zb 1) (aN (eC (.int 1))) (aV))) [Ya (.str t),Ya (.ref M.length),Ya (.tup ((pre.map (·.1)++k::p_).map D.str)),Ya (.ref (M.length+1)),Ye,Ye,Ye] S1= .ok ⟨gn ((pre.map (·.1)++k::p_).map D.str) V,[(S1.length,V)]⟩ (S1++[.lst V]):=by
   have e3:(aW (Zb 1) (aN (eC (.int 1))) (aV)) [Ya (.str t),Ya (.ref M.length),Ya (.tup ((pre.map (·.1)++k::p_).map D.str)),Ya (.ref (M.length+1)),Ye,Ye,Ye] S1= .ok (.ref S1.length) (S1++[.lst V]):=by simp only[aW,Zb,qj,nH,R3.bind,aN,eC,aV,lM,lO,lQ,lR,gL,vL,hV,alloc]
   simp only[pN,e3,R3.bind,uE,gV,Zb,qj,nH,tU]
  obtain⟨S',h1,h2,h3⟩:=ZlJ (lk:=S1.length) (vs:=V) (e0:=Ya (.str t)) (e1':=Ya (.ref M.length)) (e2':=Ya (.tup ((pre.map (·.1)++k::p_).map D.str))) pre k v (gn (p_.map D.str) (post.map D.str)) Ye Ye Ye (S1++[.lst V]) (M.length+1) [.str w] gV (by omega) gR (by rw[Yk];omega) hp hb;rw[←ZlB,←hV]at h1;have pf:M<+:S':=by refine Nr.mpr λj hj=>?_;rw[h3 j (by omega),hS1,jC,jC,Y6 hj];exact Y2 hj
  obtain⟨G,hG⟩:=pf;refine go G (some_ h ?_);refine(Zy (mW c)).trans ((Zy (b_ (d:=.ref (M.length+1)) (M':=S1) (r0.trans (by simp)))).trans (qD ?_));unfold yc;rw[z0,hG];exact h1
theorem jB{o:MO}(h:M<+:S)(e:M[n]?=Ya o):S[n]?=Ya o:=by obtain⟨G,rfl⟩:=h;exact Ak e G
def LE(f:E3)(env:Zu)(M:Store)(xs:List D):Prop:=∃n S,f env M= .ok (.ref n) S/\M<+:S/\S[n]?=Ya (.lst xs)
def LF(f:E3)(env:Zu)(M:Store)(xs:List D):Prop:=∃n S,f env M= .ok (.ref n) S/\M<+:S/\S[n]?=Ya (.lst xs)/\M.length<=n
def FL(F:F3)(ds:List D)(M:Store)(xs:List D):Prop:=∃n S,F ds M= .ok (.ref n) S/\M<+:S/\S[n]?=Ya (.lst xs)/\M.length<=n
def BL(M0:Store)(u:S3)(env:Zu)(M:Store)(xs:List D):Prop:=∃n S,u env M= .rt (.ref n) S/\M0<+:S/\S[n]?=Ya (.lst xs)/\M0.length<=n
theorem LF.le(h:LF f env M xs):LE f env M xs:=let⟨n,S,a,b,c,_⟩:=h;⟨n,S,a,b,c⟩
theorem Zn1{m:Nat}{x y:List D}(h1:M[n]?=Ya (.lst x))(h2:M[m]?=Ya (.lst y))(hz:x.length+y.length<=900000):Zk (.ref n) (.ref m) M= .ok (.ref M.length) (M++[.lst (x++y)]):=by rw[Zj4,h1,h2];exact if_pos (Ym hz (by decide))
theorem LE.add{g:E3}{x y:List D}(hf:LE f env M x)(hg:∀S,M<+:S->LE g env S y)(hz:x.length+y.length<=900000):LF (e2 Zk f g) env M (x++y):=by obtain⟨n,S,h1,p1,g1⟩:=hf;obtain⟨m,S2,h2,p2,g2⟩:=hg S p1;exact⟨S2.length,S2++[.lst (x++y)],Zg h1 h2 (Zn1 (jB p2 g1) g2 hz),(p1.trans p2).trans (iI _ _),dN _ _ _,(p1.trans p2).length_le⟩
theorem LE.var{i:Nat}{x:List D}(h:Zb i env M= .ok (.ref n) M)(hx:M[n]?=Ya (.lst x)):LE (Zb i) env M x:=⟨n,M,h,vA _,hx⟩
theorem LF.lst{g:cN}{env:Zu}{M:Store}{ds:List D}(h:g env M= .ok ds M)(hl:decide (ds.length<=100)=true):LF (bA g) env M ds:=⟨M.length,M++[.lst ds],wJ h hl,iI _ _,dN _ _ _,Yt _⟩
theorem LF.call{F:F3}{x:List D}(h:g env M= .ok ds M)(hF:FL F ds M x):LF (aR F g) env M x:=by obtain⟨n,S,h1,p1,g1⟩:=hF;exact⟨n,S,by simp only[aR,h,R3.bind,h1],p1,g1⟩
variable{u:S3}{M0:Store}
theorem BL.set{i:Nat}{x xs:List D}(hf:LE f env M x)(hu:∀n S,M<+:S->S[n]?=Ya (.lst x)->BL M0 u (env.set i (Ya (.ref n))) S xs):BL M0 (Zo (aD i f) u) env M xs:=by obtain⟨n,S,h1,p1,g1⟩:=hf;obtain⟨m,S2,h2,r⟩:=hu n S p1 g1;exact⟨m,S2,(Zy (b_ h1 rfl)).trans h2,r⟩
theorem BL.dX{i:Nat}(hf:f env M= .ok d M)(hu:BL M0 u (env.set i (Ya d)) M xs):BL M0 (Zo (aD i f) u) env M xs:=by obtain⟨m,S2,h2,r⟩:=hu;exact⟨m,S2,(Zy (b_ hf rfl)).trans h2,r⟩
theorem BL.ret(hf:LF f env M xs)(p:M0<+:M):BL M0 (aK f) env M xs:=by obtain⟨n,S,h1,p1,g1,l1⟩:=hf;exact⟨n,S,qF h1,p.trans p1,g1,Ym p.length_le l1⟩
variable{v:S3}
theorem BL.skip{c:E3}(hc:c env M= .ok (.bl false) M)(hv:BL M0 v env M xs):BL M0 (Zo (aJ c u aU) v) env M xs:=by obtain⟨n,S,h1,r⟩:=hv;exact⟨n,S,(Zy (mW hc)).trans h1,r⟩
theorem BL.take{c:E3}{w:S3}(hc:c env M= .ok (.bl true) M)(hu:BL M0 u env M xs):BL M0 (Zo (aJ c u w) v) env M xs:=by obtain⟨n,S,h1,r⟩:=hu;exact⟨n,S,qD ((iQ hc).trans h1),r⟩
theorem BL.step{env':Zu}(hu:u env M= .nx env' S)(hv:BL M0 v env' S xs):BL M0 (Zo u v) env M xs:=by obtain⟨n,S2,h1,r⟩:=hv;exact⟨n,S2,(Zy hu).trans h1,r⟩
theorem FL.of{ps:Nat}{body:S3}(h:BL M body env M xs)(hl:ds.length=ps)(he:ds.map Ya++Yj (n-ps) Ye=env):FL (dB ps n body) ds M xs:=by obtain⟨k,S,h1,p1,g1,l1⟩:=h;refine⟨k,S,(Qz (n:=n) h1 hl he).trans ?_,p1,g1,l1⟩;have hb:below M.length (.ref k)=false:=decide_eq_false (λz=>lB 2 25786650641 T1 z l1);rw[mV,hb];rfl
noncomputable abbrev bR:List Nat:=[66,97,100,82,111,119]
structure Ss(gs:List GR)(ls:List (List Nat)):Prop where
 fit:∀g∈gs,∃ks,dW g.1 g.2 ks
 free:∀t∈ls,10∉t/\t.length<=5000
 few:ls.length<=100
theorem Su{g:GR}(F:dW g.1 g.2 ks):10∉aC g/\(aC g).length<=5000:=⟨λz=>absurd (Zh6 F.abc F.num 10 z) (by decide),Ym (sS F.few.1 F.few.2 F.num).2 (by decide)⟩
theorem ZjU{ls:List (List Nat)}(h:∀t∈ls,10∉t/\t.length<=5000)(hf:ls.length<=100):lU [10] ls<=SZ/\(glue [10] ls).length+2<=SZ:=by obtain⟨a,b⟩:=Cj 10 5000 ls λt ht=>(h t ht).2;have:ls.length*(5000+1)<=100*5001:=Ia hf (Yt _);simp only[SZ];omega
noncomputable def yQ:S3:=(Zo (fH (aD 4 (aR uM (Za (Zb 3) (Zf))))) (Zo (aJ (mZ (e2 pH (Zb 4) (eC .non))) (yD [66,97,100,82,111,119] [114,111,119] (Za (Zb 2) (Zf))) (fH (aU))) (fH (fG (aZ j7 pK (Zb 1) (Za (Zb 4) (Zf)))))))
theorem ZpL{e0 z:Option D}{i:Nat}{g:GR}(F:dW g.1 g.2 ks)(hn:S[n]?=Ya (.lst xs))(hx:xs.length<=1000):yQ [e0,Ya (.ref n),Ya (.int (i:Int)),Ya (.str (aC g)),z] S= .nx [e0,Ya (.ref n),Ya (.int (i:Int)),Ya (.str (aC g)),Ya (bV g)] (S.set n (.lst (xs++[bV g]))):=by unfold yQ;refine(Zy (qW (b_ (x_ rfl (ZgN F S))))).trans ?_;refine(Zy ((JQ (F_ (Zg rfl rfl (show pH (bV g) .non _=_ from by simp only[z8];rw[decide_eq_false (λz=>nomatch z)])))).trans (qW rfl))).trans ?_;exact qW (Znj (o:=Zb 1) (t:=Zb 4) rfl hn rfl hn (HS hx (by decide)))
theorem ZrO{e0 e1' z:Option D}{i:Nat}{t:List Nat}(B:jo t)(hi:i<=1000):yQ [e0,e1',Ya (.int (i:Int)),Ya (.str t),z] S= .exc ⟨bR,.ref S.length⟩ (S++[.ins (0::bR) [([114,111,119],.int (i:Int))]]):=by unfold yQ;refine(Zy (qW (b_ (x_ rfl (B.rd S))))).trans (KH ((iQ (F_ (Zg rfl rfl rfl))).trans ?_));rw[yD,show Za (Zb 2) Zf [e0,e1',Ya (.int (i:Int)),Ya (.str t),Ya .non] S= .ok [.int (i:Int)] S from rfl];refine if_pos (Sh ?_);rw[xM];exact HS hi (by decide +kernel)
theorem Zlh{lk:Nat}{vs:List D}{e0:Option D}{t:List Nat}(B:jo t):∀(gs:List GR) (post:List D) (x y z:Option D) (S:Store) (n i:Nat) (xs:List D),S[lk]?=Ya (.lst vs)->lk≠n->S[n]?=Ya (.lst xs)->xs.length+gs.length<=900->i+gs.length<=900->(∀g∈gs,∃ks,dW g.1 g.2 ks) ->
  ∃S',iy [(lk,vs)] (ou [2,3]) yQ (lX i ((gs.map aC).map D.str++ .str t::post)) [e0,Ya (.ref n),x,y,z] S= .exc ⟨bR,.ref S'.length⟩ (S'++[.ins (0::bR) [([114,111,119],.int ((i+gs.length:Nat):Int))]])/\S'.length=S.length/\∀j,j≠n->S'[j]?=S[j]?
 |[],post,x,y,z,S,n,i,xs,hlk,_,hn,_,hi,_=>by refine⟨S,?_,rfl,λ_ _=>rfl⟩;show iy _ _ _ (D.tup [.int (i:Int),.str t]::lX (i+1) post) _ _=_;rw[pM,if_pos (by simp[gm,hlk])];show(match yQ [e0,Ya (.ref n),Ya (.int (i:Int)),Ya (.str t),z] S with| .nx e M'=>_| .ct e M'=>_| .bk e M'=>_|o=>o)=_;rw[ZrO B (by omega)];rfl
 |g::gs,post,x,y,z,S,n,i,xs,hlk,hne,hn,hz,hi,hg=>by rw[Yo]at hz hi;obtain⟨ks,F⟩:=hg g (Yu ..);have hb:=ZpL (e0:=e0) (z:=z) (i:=i) F hn (by omega);obtain⟨S',h1,h2,h3⟩:=Zlh B gs post (Ya (.int (i:Int))) (Ya (.str (aC g))) (Ya (bV g)) (S.set n (.lst (xs++[bV g]))) n (i+1) (xs++[bV g]) (by rw[Y5 (cQ hne)];exact hlk) hne (jR (p6 hn)) (by rw[Yi,Yk];omega) (by omega) (λq hq=>hg q (Yv _ hq));refine⟨S',?_,by rw[h2,vB],λj hj=>(h3 j hj).trans (Y5 (cQ hj))⟩;show iy _ _ _ (D.tup [.int (i:Int),.str (aC g)]::lX (i+1) ((gs.map aC).map D.str++ .str t::post)) _ _=_;rw[pM,if_pos (by simp[gm,hlk])];show(match yQ [e0,Ya (.ref n),Ya (.int (i:Int)),Ya (.str (aC g)),z] S with| .nx e M'=>_| .ct e M'=>_| .bk e M'=>_|o=>o)=_;rw[hb,show i+(g::gs).length=i+1+gs.length by rw[Yo];omega];exact h1
variable{gs:List GR}
theorem ZiS{t:List Nat}{post:List (List Nat)}(L:Ss gs (gs.map aC++t::post))(B:jo t)(M:Store):∃S,uN [.str (glue [10] (gs.map aC++t::post))] M= .exc ⟨bR,.ref S.length⟩ (S++[.ins (0::bR) [([114,111,119],.int ((gs.length+1:Nat):Int))]])/\M<+:S:=by
 obtain⟨T,hT⟩:∃T,T=glue [10] (gs.map aC++t::post):=⟨_,rfl⟩;have hsp:lV T [10]=gs.map aC++t::post:=by rw[hT];exact FN 10 _ (by simp) λu hu=>(L.free u hu).1
 have Z:=ZjU L.free L.few;obtain⟨V,hV⟩:∃V,V=(gs.map aC++t::post).map D.str:=⟨_,rfl⟩;have sp:(aZ bC mY (Zb 0) (Za (eC (.str [10])) (Zf))) [Ya (.str T),Ya (.ref M.length),Ye,Ye,Ye] (M++[.lst []])= .ok (.ref (M.length+1)) (M++[.lst [],.lst V]):=by refine oG (d:=.str [10]) rfl rfl ?_;simp only[Al,hsp];rw[if_pos ⟨by decide,by rw[hT];exact Z.2⟩,←hV];simp only[alloc,Yi,Yk,jC,Nt]
 have gV:(M++[MO.lst [],.lst V])[M.length+1]?=Ya (.lst V):=by rw[uw];rfl
 have en:(Ao (aZ bC mY (Zb 0) (Za (eC (.str [10])) (Zf)))) [Ya (.str T),Ya (.ref M.length),Ye,Ye,Ye] (M++[.lst []])= .ok ⟨lX 1 V,[(M.length+1,V)]⟩ (M++[.lst [],.lst V]):=by simp only[Ao,sp,R3.bind,gV]
 have lg:gs.length<=100:=by have:=L.few;simp only[Yi,Yg]at this;omega
 obtain⟨S',h1,h2,h3⟩:=Zlh (lk:=M.length+1) (vs:=V) (e0:=Ya (.str T)) B gs (post.map D.str) Ye Ye Ye (M++[.lst [],.lst V]) M.length 1 [] gV (by omega) (dN ..) (by simp only[ju];omega) (by omega) L.fit;have eV:(gs.map aC).map D.str++D.str t::post.map D.str=V:=by rw[hV,nP];rfl
 rw[eV,Ib 1]at h1;refine⟨S',?_,?_⟩
 .rw[←hT];refine KJ (ps:=1) (n:=5) (ds:=[.str T]) (env:=[Ya (.str T),Ye,Ye,Ye,Ye]) ?_;unfold Fx;refine(Zy (qW (b_ (d:=.ref M.length) (M':=M++[.lst []]) (by simp only[bA,Zf,R3.bind];rw[if_pos (show([]:List D).length<=SZ by decide)];rfl)))).trans (KH ?_);unfold qJ;rw[en];exact h1
 .refine Nr.mpr λj hj=>?_;rw[h3 j (by omega),Y6 hj];exact Y2 hj
theorem ZhU{T:List Nat}{fs:List (List Nat×D)}(p:M<+:S)(hx:uN [.str T] M= .exc ⟨c,.ref n⟩ S)(gx:S[n]?=Ya (.ins (0::c) fs))(hc:(c=nR/\xs=[.int 1,.int 0])\/(c=bR/\∃i:Int,fs=[([114,111,119],.int i)]/\xs=[.int 2,.int i])):
  FL nq [.str T] M xs:=by
 have hcs:([bR,nR]:List (List Nat)).contains c=true:=by rcases hc with⟨rfl,_⟩|⟨rfl,_⟩<;>rfl
 have no:∀{S':Store} {a b d:Option D},S<+:S'->(e1 (iR [] [bR,nR]) (Zb 1)) [a,Ya (.ref n),b,d] S'= .ok (.bl false) S':=λq=>eZ rfl (KQ (jB q gx) rfl hcs);refine FL.of (env:=[Ya (.str T),Ye,Ye,Ye]) ?_ rfl rfl;unfold Kw;refine BL.step (b_ rfl) ?_;refine BL.step (env':=[Ya (.str T),Ya (.ref n),Ye,Ye]) (Znq (Zh4 (show aR uN (uy (Za (Zb 0) (Zf))) [Ya (.str T),Ya .non,Ye,Ye] M=_ from hx)) (by rcases hc with⟨rfl,_⟩|⟨rfl,_⟩<;>rfl) (b_ rfl) rfl) ?_;refine BL.skip (Zg rfl rfl (by simp only[z8];rfl)) ?_;have q0:=vA S;refine BL.set (x:=[.bl false,.bl false,.bl false]) (LF.le (LF.lst (Zn (no q0) (Zn (no q0) (Zn (no q0) rfl))) rfl)) λn3 S1 p1 g1=>?_;show BL M _ [Ya (.str T),Ya (.ref n),Ye,Ya (.ref n3)] S1 _;refine BL.set (x:=[.bl false,.bl false,.bl false]++[.bl false,.bl false,.bl false]) (LF.le (LE.add (LE.var rfl g1) (λS' q=>LF.le (LF.lst (Zn (no (p1.trans q)) (Zn (no (p1.trans q)) (Zn (no (p1.trans q)) rfl))) rfl)) (by decide))) λn4 S2 p2 g2=>?_;show BL M _ [Ya (.str T),Ya (.ref n),Ye,Ya (.ref n4)] S2 _;have P2:=p1.trans p2;have wM:=jB P2 gx;refine BL.skip ((qG (M1:=S2) (dh rfl (by rw[Bo,g2];rfl))).trans (eZ (eZ rfl (KN wM hcs)) rfl)) ?_;rcases hc with⟨rfl,rfl⟩|⟨rfl,i,rfl,rfl⟩
 .refine BL.skip (Zg (eZ rfl (KQ wM rfl rfl)) (eZ rfl (KN wM rfl)) rfl) ?_;exact BL.take (eZ rfl (KN wM rfl)) (BL.ret (LF.lst rfl rfl) (p.trans P2))
 .refine BL.skip (Zg (eZ rfl (KN wM rfl)) (eZ rfl (KQ wM rfl rfl)) rfl) ?_;refine BL.skip (eZ rfl (KQ wM rfl rfl)) ?_;have fl:(e1 (qT [66,97,100,82,111,119] [114,111,119]) (Zb 1)) [Ya (.str T),Ya (.ref n),Ye,Ya (.ref n4)] S2= .ok (.int i) S2:=eZ rfl (by rw[qT,wM];rfl);refine BL.skip ((qG (M1:=S2) (eZ (op:=gW) (a:=.bl true) (M1:=S2) (eZ (op:=xW .int) fl rfl) rfl)).trans (eZ (op:=xW .bool) fl rfl)) ?_;exact BL.ret (LF.lst (Zn rfl (Zn fl rfl)) rfl) (p.trans P2)
theorem Zjo(F:uT rs)(M:Store):FL nq [.str (glue [10] (rs.map aC))] M [.int (if mF rs then 0 else 1),.int 0]:=by
 have R:=ZkU F M;cases h:mF rs with
 |true=>refine FL.of (env:=[Ya (.str (glue [10] (rs.map aC))),Ye,Ye,Ye]) ?_ rfl rfl;unfold Kw;refine BL.step (b_ rfl) ?_;refine BL.step (env':=[Ya (.str (glue [10] (rs.map aC))),Ya .non,Ye,Ye]) (Zqs (xZ (show aR uN (uy (Za (Zb 0) (Zf))) [Ya (.str (glue [10] (rs.map aC))),Ya .non,Ye,Ye] M=_ from R.1 h))) ?_;exact BL.take (Zg rfl rfl rfl) (BL.ret (LF.lst rfl rfl) (vA _))|false=>have hx:=R.2 h;refine ZhU (fs:=[]) (iI _ _) hx ?_ (.inl ⟨rfl,rfl⟩);rw[uw];rfl
theorem Zmo{t:List Nat}{post:List (List Nat)}(L:Ss gs (gs.map aC++t::post))(B:jo t)(M:Store):FL nq [.str (glue [10] (gs.map aC++t::post))] M [.int 2,.int ((gs.length+1:Nat):Int)]:=by obtain⟨S,hx,p⟩:=ZiS L B M;exact ZhU (p.trans (iI _ _)) hx (dN ..) (.inr ⟨rfl,_,rfl,rfl⟩)
variable{a b:Option Int}
theorem ZJ{lo hi:rO}(h1:f env M= .ok (.tup xs) M)(h2:lo env M= .ok a M)(h3:hi env M= .ok b M):aW f lo hi env M= .ok (.tup (cutD xs a b)) M:=by simp only[aW,h1,h2,h3,R3.bind,lM,lO,lQ,lR]
theorem ZnS{lo hi:rO}(h1:f env M= .ok (.ref n) M)(hM:M[n]?=Ya (.lst xs))(h2:lo env M= .ok a M)(h3:hi env M= .ok b M):aW f lo hi env M= .ok (.ref M.length) (M++[.lst (cutD xs a b)]):=by simp only[aW,h1,h2,h3,R3.bind,lM,lO,lQ,lR,hM,alloc]
theorem oJ{nm:List Nat}(h1:tabAt nm di=Ya ks)(h2:ks.length=is.length)(h3:(ir is.length 3&&ir nm.length 4)=true)(h4:(nm.all λc=>decide (97<=c))=true)(h5:∀p∈ks.zip is,p.2.natAbs<10^60/\(p.1=bx->0<=p.2/\p.2<8)):dW nm is ks:=by
 have zg:∀(j:Nat) k n,ks[j]?=Ya k->is[j]?=Ya n->(k,n)∈ks.zip is:=λj k n a b=>q8 (i:=j) (by rw[Vn];exact⟨a,b⟩);refine⟨h1,h2,⟨kY (Yaj.mp h3).1,kY (Yaj.mp h3).2⟩,λc hc=>of_decide_eq_true (fB.mp h4 c hc),λn hn=>?_,λj n a b=>(h5 _ (zg j _ n a b)).2 rfl⟩;obtain⟨j,hj⟩:=zr hn;have l:j<ks.length:=by rw[h2];exact p6 hj
 exact(h5 _ (zg j _ n (Y2 l) hj)).1
abbrev FP(p:List Nat×Int):Prop:=p.2.natAbs<10^60/\(p.1=bx->0<=p.2/\p.2<8)
theorem oK:∀p∈([]:List (List Nat×Int)),FP p:=λ_ z=>nomatch z
theorem iD{a:List Nat×Int}{l:List (List Nat×Int)}(h:FP a)(t:∀p∈l,FP p):∀p∈a::l,FP p:=λp hp=>by
 rcases Y1.mp hp with rfl|hp
 .exact h
 .exact t p hp
theorem jH{a:Nat}(h:a<8):FP (bx,(a:Int)):=⟨by rw[xM];exact tX h (by decide +kernel),λ_=>⟨vH _,by show(a:Int)<8;omega⟩⟩
theorem KR{v:Int}{k:List Nat}(h:v.natAbs<10^60)(hk:k≠bx):FP (k,v):=⟨h,λz=>absurd z hk⟩
theorem Zni{r:vZ}{l:List (dJ×D)}(h:r env (M++[.dct []])= .ok l (M++[.dct []]))(hl:ir l.length 15=true):v5 r env M= .ok (.ref M.length) (M++[.dct (dictOf l)]):=by have e:(M++[MO.dct []]).set M.length (.dct (dictOf l))=M++[.dct (dictOf l)]:=QB M _ 0 _;simp only[v5,h,R3.bind,dN,if_pos (kY hl),e]
theorem Sv(i:Int)(j:Nat)(h:j<=1000/\i.natAbs<1000):vW (.int i) (.int (j:Int)) M= .ok (.int (i^j)) M:=by rw[ZjK,if_pos ⟨vH _,by omega,h.2⟩];rfl
theorem KY:dY (.int i) (.int j) M= .ok (.int (i-j)) M:=rfl
def BV(M0:Store)(u:S3)(env:Zu)(M:Store)(d:D):Prop:=∃S,u env M= .rt d S/\M0<+:S
theorem BV.set{i:Nat}{x:List D}(hf:LE f env M x)(hu:∀n S,M<+:S->S[n]?=Ya (.lst x)->BV M0 u (env.set i (Ya (.ref n))) S d):BV M0 (Zo (aD i f) u) env M d:=by obtain⟨n,S,h1,p,g⟩:=hf;obtain⟨S',h2,p2⟩:=hu n S p g;exact⟨S',(Zy (b_ h1)).trans h2,p2⟩
theorem BV.dX{i:Nat}{e:D}(hf:f env M= .ok e S)(hu:BV M0 u (env.set i (Ya e)) S d):BV M0 (Zo (aD i f) u) env M d:=by obtain⟨S',h2,p2⟩:=hu;exact⟨S',(Zy (b_ hf)).trans h2,p2⟩
theorem BV.step{env':Zu}(hu:u env M= .nx env' S)(hv:BV M0 v env' S d):BV M0 (Zo u v) env M d:=by obtain⟨S',h2,p2⟩:=hv;exact⟨S',(Zy hu).trans h2,p2⟩
theorem BV.skip{c:E3}(hc:c env M= .ok (.bl false) S)(hv:BV M0 v env S d):BV M0 (Zo (aJ c u aU) v) env M d:=BV.step (mW hc) hv
theorem BV.take{c:E3}{w:S3}(hc:c env M= .ok (.bl true) S)(hu:BV M0 u env S d):BV M0 (Zo (aJ c u w) v) env M d:=by obtain⟨S',h2,p2⟩:=hu;exact⟨S',qD ((iQ hc).trans h2),p2⟩
theorem BV.ret(hf:f env M= .ok d S)(p:M0<+:S):BV M0 (aK f) env M d:=⟨S,qF hf,p⟩
theorem BV.pure{ps:Nat}{body:S3}(h:BV M body env M d)(hd:below M.length d=true)(hl:ds.length=ps:=by rfl)(he:ds.map Ya++Yj (n-ps) Ye=env:=by rfl):dB ps n body ds M= .ok d M:=by obtain⟨S,h1,⟨G,rfl⟩⟩:=h;exact Rt.pure h1 hd hl he
theorem iG{a b:List Nat}(h:a.length+b.length<=10000):Zk (.str a) (.str b) M= .ok (.str (a++b)) M:=by simp only[ZoL,Zo8,ZnJ,Zj4];exact if_pos (Ym h (by decide))
theorem yR(h:i.natAbs<10^60):dR [.int i] M= .ok (.str (Zd i)) M:=by simp only[Zlp,Zl5,if_pos (ZrC h)]
theorem Znx{j:Nat}(h:f env M= .ok (.int (j:Int)) M')(hj:j<=1000000):xY f env M= .ok ⟨j8 0 j,Ye⟩ M':=by simp only[xY,h,R3.bind];rw[if_pos ⟨by omega,by omega⟩,Dv]
theorem Znu(a:Int)(k:Nat)(hk:k<=100)(M:Store):∃v:Int,Fy [.int a,.int (k:Int)] M= .ok (.int v) M:=by refine⟨(a % 1000003+7)*(48271+6007*(k:Int)*k) % 2147483629,Rt.pure (G:=[]) (env:=[Ya (.int a),Ya (.int (k:Int))]) ?_ rfl⟩;rw[iJ];unfold R4;have h1:0<=a % 1000003:=Ik _ (by decide);have h2:a % 1000003<1000003:=Ij _ (by decide);exact qF (Zg (Zg (Zg (Zg rfl rfl (cY (by decide))) rfl rfl) (Zg rfl (Zg (Zg rfl rfl (wK (KC (by decide)))) rfl (wK (mul_r (by omega)))) rfl) (wK (KC (by omega)))) rfl (cY (by decide)))
theorem Zmm(c:Int)(M:Store):∃v:Int,v.natAbs<10^60/\Bp [.int c] M= .ok (.int v) M:=by
 obtain⟨j,hj,lj⟩:=gw c 7 (by decide);have hj':c % 7=(j:Int):=hj;obtain⟨e',M',hl,v,x,rfl,rfl⟩:=ZmX (it:=⟨j8 0 j,Ye⟩) (g:=fO 2) (body:=(aD 1 (e2 Zk (e2 cZ (Zb 1) (e2 vW (eC (.int 10)) (eC (.int 10)))) (e2 cZ (aR Fy (Za (e2 bD (Zb 0) (eC (.int 7))) (Za (Zb 2) (Zf)))) (eC (.int 5))))))
  (P:=λenv M'=>∃(v:Int) (x:Option D),env=[Ya (.int c),Ya (.int v),x]/\M=M') (j8 0 j) [Ya (.int c),Ya (.int 0),Ye] M ⟨0,Ye,rfl,rfl⟩ (λ_ _ _=>rfl)
  (λd hd env M' hp=>by obtain⟨v,x,rfl,rfl⟩:=hp;obtain⟨k,hk⟩:=zr hd;obtain⟨rfl,lk⟩:=Zjl hk;obtain⟨u,hu⟩:=Znu (c / 7) k (by omega) M;exact⟨_,_,M,rfl,b_ (Zg (Zg rfl (Zg rfl rfl (Sv 10 10 (by decide))) (wK (mul_r (by decide)))) (Zg (j9 (Zg rfl rfl (iW (by decide))) rfl hu) rfl (wK (mul_r (by decide)))) rfl),_,_,rfl,rfl⟩)
 have m0:0<=v % 10^60:=Ik _ (by decide);have m1:v % 10^60<10^60:=Ij _ (by decide);obtain⟨w,hw⟩:∃w,v % 10^60=w:=⟨_,rfl⟩;rw[hw]at m0 m1;have go:∀r:Int,BV M (Zo (aJ (e2 bh (e2 aQ (e2 bD (Zb 0) (eC (.int 7))) (eC (.int 2))) (eC (.int 1))) (aD 1 (e1 pG (Zb 1))) (aU)) (Zo (aJ (e2 bh (e2 aQ (e2 bD (Zb 0) (eC (.int 14))) (eC (.int 4))) (eC (.int 1))) (aD 1 (e2 dY (e2 aQ (e2 bD (Zb 0) (eC (.int 56))) (eC (.int 21))) (eC (.int 10)))) (aU)) (aK (Zb 1)))) [Ya (.int c),Ya (.int w),x] M (.int r)->Bp [.int c] M= .ok (.int r) M:=λr h=>by refine BV.pure (env:=[Ya (.int c),Ye,Ye]) ?_ rfl;unfold R5;refine BV.dX rfl (BV.step ((Zle (it:=⟨j8 0 j,Ye⟩) (M':=M) ?_).trans hl) (BV.dX (e:=.int w) (Zg rfl (Zg rfl rfl (Sv 10 60 (by decide))) ((cY (by decide)).trans (by rw[hw]))) h));have:(e2 aQ (Zb 0) (eC (.int 7))) [Ya (.int c),Ya (.int 0),Ye] M= .ok (.int (j:Int)) M:=Zg rfl rfl ((cY (by decide)).trans (by rw[hj']));exact Znx this (by omega)
 have c7:∀{u:Int},(e2 aQ (e2 bD (Zb 0) (eC (.int 7))) (eC (.int 2))) [Ya (.int c),Ya (.int u),x] M= .ok (.int (c / 7 % 2)) M:=Zg (Zg rfl rfl (iW (by decide))) rfl (cY (by decide));have c14:∀{u:Int},(e2 aQ (e2 bD (Zb 0) (eC (.int 14))) (eC (.int 4))) [Ya (.int c),Ya (.int u),x] M= .ok (.int (c / 14 % 4)) M:=Zg (Zg rfl rfl (iW (by decide))) rfl (cY (by decide));have end_:∀u:Int,u.natAbs<10^60->∃r:Int,r.natAbs<10^60/\BV M (Zo (aJ (e2 bh (e2 aQ (e2 bD (Zb 0) (eC (.int 14))) (eC (.int 4))) (eC (.int 1))) (aD 1 (e2 dY (e2 aQ (e2 bD (Zb 0) (eC (.int 56))) (eC (.int 21))) (eC (.int 10)))) (aU)) (aK (Zb 1))) [Ya (.int c),Ya (.int u),x] M (.int r):=λu hu=>by
  by_cases h:c / 14 % 4=1
  .refine⟨c / 56 % 21-10,by omega,BV.step ((iQ (Zg c14 rfl (Ez h))).trans (b_ (Zg (Zg (Zg rfl rfl (iW (by decide))) rfl (cY (by decide))) rfl rfl))) (BV.ret rfl (vA _))⟩
  .exact⟨u,hu,BV.skip (Zg c14 rfl (EY h)) (BV.ret rfl (vA _))⟩
 by_cases h:c / 7 % 2=1
 .obtain⟨r,hr,q⟩:=end_ (-w) (by omega);exact⟨r,hr,go r (BV.step ((iQ (Zg c7 rfl (Ez h))).trans (b_ (eZ rfl rfl))) q)⟩
 .obtain⟨r,hr,q⟩:=end_ w (by omega);exact⟨r,hr,go r (BV.skip (Zg c7 rfl (EY h)) q)⟩
theorem Zjc{nm:List Nat}(h:tabAt nm di=Ya ks)(hk:∀k∈ks,k≠qU):jn n (nm,is)=true:=by unfold jn;rw[h];refine fB.mpr λp hp=>?_;unfold sU;rw[decide_eq_false (hk p.1 (Dk hp).1)];rfl
theorem Zo5{m u:Nat}(h:u<m)(hn:m<=n):inR n (u:Int)=true:=decide_eq_true ⟨vH _,by omega⟩
theorem gl3(a b c:List Nat):glue [32] [a,b,c]=a++[32]++b++[32]++c:=by show a++[32]++(b++[32]++c)=_;simp only[jC]
noncomputable def lnT:S3:=(Zo (aJ (e2 bh (Zb 3) (eC (.str [112,117,116]))) (aK (e2 Zk (e2 Zk (e2 Zk (e2 Zk (Zb 3) (eC (.str [32]))) (Zx dR (Za (e2 aM (Zb 5) (eC (.int 0))) (Zf)))) (eC (.str [32]))) (Zx dR (Za (aR Bp (Za (e2 bD (Zb 4) (eC (.int 8))) (Zf))) (Zf))))) (aU)) (Zo (aJ (e2 bh (Zb 3) (eC (.str [106,117,109,112]))) (aK (e2 Zk (e2 Zk (Zb 3) (eC (.str [32]))) (Zx dR (Za (e2 aQ (Zb 4) (Zb 1)) (Zf))))) (aU)) (Zo (aJ (e2 bh (Zb 3) (eC (.str [119,104,101,110]))) (aK (e2 Zk (e2 Zk (e2 Zk (e2 Zk (Zb 3) (eC (.str [32]))) (Zx dR (Za (e2 aM (Zb 5) (eC (.int 0))) (Zf)))) (eC (.str [32]))) (Zx dR (Za (e2 aQ (e2 bD (Zb 4) (eC (.int 8))) (Zb 1)) (Zf))))) (aU)) (Zo (aD 6 (v5 (bK (eC (.str [97,100,100])) (eC (.int 3)) (bK (eC (.str [115,117,98])) (eC (.int 3)) (bK (eC (.str [109,111,114,101])) (eC (.int 3)) (bK (eC (.str [103,101,116])) (eC (.int 2)) (bK (eC (.str [115,101,116])) (eC (.int 2)) (bK (eC (.str [116,101,108,108])) (eC (.int 1)) (bK (eC (.str [104,97,108,116])) (eC (.int 0)) (v4)))))))))) (aK (aZ bC dZ (eC (.str [32])) (Za (e2 Zk (bA (Za (Zb 3) (Zf))) (mU (iK (aW (Zb 5) (aV) (aN (e2 pI (Zb 6) (Zb 3))))) 1 (fO 7) [] (Zx dR (Za (Zb 7) (Zf))))) (Zf))))))))
theorem Zqy(c:Int)(m:Nat)(hm:0<m)(hb:m<=100)(M:Store):∃g ks,dW g.1 g.2 ks/\(∀n,m<=n->jn n g=true)/\pZ [.int c,.int (m:Int)] M= .ok (.str (aC g)) M:=by
 obtain⟨j,hj,lj⟩:=gw c 11 (by decide);obtain⟨x,hx,lx⟩:=gw (c / 11) 8 (by decide);obtain⟨y,hy,ly⟩:=gw (c / 11 / 8) 8 (by decide);obtain⟨z,hz,lz⟩:=gw (c / 11 / 64) 8 (by decide);obtain⟨u,hu,lu⟩:=gw (c / 11) m hm;obtain⟨v,hv,lv⟩:=gw (c / 11 / 8) m hm;have hj':c % 11=(j:Int):=hj;have hx':c / 11 % 8=(x:Int):=hx;have hy':c / 11 / 8 % 8=(y:Int):=hy;have hz':c / 11 / 64 % 8=(z:Int):=hz;have n8:∀{i:Nat},i<8->((i:Nat):Int).natAbs<10^60:=λh=>by rw[xM];exact tX h (by decide +kernel)
 have nu:((u:Nat):Int).natAbs<10^60:=by rw[xM];exact Yz (Yz lu hb) (by decide +kernel)
 have nv:((v:Nat):Int).natAbs<10^60:=by rw[xM];exact Yz (Yz lv hb) (by decide +kernel)
 obtain⟨NS,oM⟩:∃NS:List D,NS=[.str [112,117,116],.str [112,117,116],.str [97,100,100],.str [115,117,98],.str [109,111,114,101],.str [103,101,116],.str [115,101,116],.str [106,117,109,112],.str [119,104,101,110],.str [116,101,108,108],.str [104,97,108,116]]:=⟨_,rfl⟩;have Ur:∀(P:List Nat->Prop) (nm:List Nat),NS[j]?=Ya (.str nm)->(∀n2 n5 S,M<+:S->S[n5]?=Ya (.lst [.int (x:Int),.int (y:Int),.int (z:Int)])->∃t,P t/\BV M lnT [Ya (.int c),Ya (.int (m:Int)),Ya (.ref n2),Ya (.str nm),Ya (.int (c / 11)),Ya (.ref n5),Ye] S (.str t))->∃t,P t/\pZ [.int c,.int (m:Int)] M= .ok (.str t) M:=λP nm h1 h2=>by
  suffices q:∃t,P t/\BV M Ku [Ya (.int c),Ya (.int (m:Int)),Ye,Ye,Ye,Ye,Ye] M (.str t)by obtain⟨t,ht,q⟩:=q;exact⟨t,ht,BV.pure (env:=[Ya (.int c),Ya (.int (m:Int)),Ye,Ye,Ye,Ye,Ye]) q rfl⟩
  unfold Ku;obtain⟨n2,S,s1,pS,gS⟩:=LF.le (LF.lst (env:=[Ya (.int c),Ya (.int (m:Int)),Ye,Ye,Ye,Ye,Ye]) (M:=M) (ds:=NS) (g:=(Za (eC (.str [112,117,116])) (Za (eC (.str [112,117,116])) (Za (eC (.str [97,100,100])) (Za (eC (.str [115,117,98])) (Za (eC (.str [109,111,114,101])) (Za (eC (.str [103,101,116])) (Za (eC (.str [115,101,116])) (Za (eC (.str [106,117,109,112])) (Za (eC (.str [119,104,101,110])) (Za (eC (.str [116,101,108,108])) (Za (eC (.str [104,97,108,116])) (Zf))))))))))))) (by rw[oM];rfl) (by rw[oM];rfl));obtain⟨n5,S',s5,KZ,g5⟩:=LF.le (LF.lst (env:=[Ya (.int c),Ya (.int (m:Int)),Ya (.ref n2),Ya (.str nm),Ya (.int (c / 11)),Ye,Ye]) (M:=S) (ds:=[.int (x:Int),.int (y:Int),.int (z:Int)]) (g:=(Za (e2 aQ (Zb 4) (eC (.int 8))) (Za (e2 aQ (e2 bD (Zb 4) (eC (.int 8))) (eC (.int 8))) (Za (e2 aQ (e2 bD (Zb 4) (eC (.int 64))) (eC (.int 8))) (Zf))))) (Zn (Zg rfl rfl ((cY (by decide)).trans (by rw[hx']))) (Zn (Zg (Zg rfl rfl (iW (by decide))) rfl ((cY (by decide)).trans (by rw[hy']))) (Zn (Zg (Zg rfl rfl (iW (by decide))) rfl ((cY (by decide)).trans (by rw[hz']))) rfl))) rfl);obtain⟨t,ht,q⟩:=h2 n2 n5 S' (pS.trans KZ) g5;exact⟨t,ht,BV.dX s1 (BV.dX (e:=.str nm) (Zg rfl (Zg rfl rfl ((cY (by decide)).trans (by rw[hj']))) (ji gS ((iw _ _).trans h1))) (BV.dX (e:=.int (c / 11)) (Zg rfl rfl (iW (by decide))) (BV.dX s5 q)))⟩
 have pre:∀(nm:List Nat) (t:List Nat),NS[j]?=Ya (.str nm)->(∀n2 n5 S,M<+:S->S[n5]?=Ya (.lst [.int (x:Int),.int (y:Int),.int (z:Int)])->BV M lnT [Ya (.int c),Ya (.int (m:Int)),Ya (.ref n2),Ya (.str nm),Ya (.int (c / 11)),Ya (.ref n5),Ye] S (.str t))->pZ [.int c,.int (m:Int)] M= .ok (.str t) M:=λnm t h1 h2=>by obtain⟨t',rfl,q⟩:=Ur (λt'=>t'=t) nm h1 λn2 n5 S p g=>⟨t,rfl,h2 n2 n5 S p g⟩;exact q
 have i0:∀{a b d e f:Option D} {n5:Nat} {S:Store},S[n5]?=Ya (.lst [.int (x:Int),.int (y:Int),.int (z:Int)])->(e2 aM (Zb 5) (eC (.int 0))) [a,b,d,e,f,Ya (.ref n5),Ye] S= .ok (.int (x:Int)) S:=λg=>Zg rfl rfl (ji g (iw _ 0));have tl:∀{i:Int},i.natAbs<10^60->(Zd i).length<=61:=λh=>Ck h;have three:∀{nm:List Nat} {a b:Int} {f g:E3} {env:Zu} {S:Store},nm.length<=4->a.natAbs<10^60->b.natAbs<10^60->(Zb 3) env S= .ok (.str nm) S->f env S= .ok (.int a) S->g env S= .ok (.int b) S->(e2 Zk (e2 Zk (e2 Zk (e2 Zk (Zb 3) (eC (.str [32]))) (Zx dR (Za f (Zf)))) (eC (.str [32]))) (Zx dR (Za g (Zf)))) env S= .ok (.str (aC (nm,[a,b]))) S:=λ{nm a b f g env S} h1 h2 h3 h4 h5 h6=>by have la:=tl h2;have lb:=tl h3;have e:aC (nm,[a,b])=nm++[32]++Zd a++[32]++Zd b:=gl3 ..;rw[e];exact Zg (Zg (Zg (Zg h4 rfl (iG (by simp only[Yk];omega))) (dh h5 (yR h2)) (iG (by simp only[Yi,Yk];omega))) rfl (iG (by simp only[Yi,Yk];omega))) (dh h6 (yR h3)) (iG (by simp only[Yi,Yk];omega))
 have fin:∀(nm:List Nat) (k:Nat) (is:List Int) (ks:List (List Nat)),NS[j]?=Ya (.str nm)->nm≠[112,117,116]->nm≠oH->nm≠Ga->rN (dictOf [(Sum.inr [97,100,100],.int 3),(Sum.inr [115,117,98],.int 3),(Sum.inr [109,111,114,101],.int 3),(Sum.inr [103,101,116],.int 2),(Sum.inr [115,101,116],.int 2),(Sum.inr [116,101,108,108],.int 1),(Sum.inr [104,97,108,116],.int 0)]) (Sum.inr nm)=Ya (.int (k:Int))->[D.int (x:Int),.int (y:Int),.int (z:Int)].take k=is.map D.int->dW nm is ks->(∀q∈ks,q≠qU)->∃g ks,dW g.1 g.2 ks/\(∀n,m<=n->jn n g=true)/\pZ [.int c,.int (m:Int)] M= .ok (.str (aC g)) M:=λnm k is ks h1 n1 n2 n3 hd ht F nb=>by
  refine⟨(nm,is),ks,F,λn _=>Zjc F.tab nb,pre nm _ h1 λa2 a5 S pS g5=>?_⟩;refine BV.skip (Zg rfl rfl ((eq_str _ _ _).trans (by rw[decide_eq_false n1]))) (BV.skip (Zg rfl rfl ((eq_str _ _ _).trans (by rw[decide_eq_false n2]))) (BV.skip (Zg rfl rfl ((eq_str _ _ _).trans (by rw[decide_eq_false n3]))) ?_));have d1:=Zni (M:=S) (env:=[Ya (.int c),Ya (.int (m:Int)),Ya (.ref a2),Ya (.str nm),Ya (.int (c / 11)),Ya (.ref a5),Ye]) (r:=(bK (eC (.str [97,100,100])) (eC (.int 3)) (bK (eC (.str [115,117,98])) (eC (.int 3)) (bK (eC (.str [109,111,114,101])) (eC (.int 3)) (bK (eC (.str [103,101,116])) (eC (.int 2)) (bK (eC (.str [115,101,116])) (eC (.int 2)) (bK (eC (.str [116,101,108,108])) (eC (.int 1)) (bK (eC (.str [104,97,108,116])) (eC (.int 0)) (v4))))))))) rfl rfl;refine BV.dX d1 ?_;obtain⟨S1,hS1⟩:∃S1,S1=S++[MO.dct (dictOf [(Sum.inr [97,100,100],.int 3),(Sum.inr [115,117,98],.int 3),(Sum.inr [109,111,114,101],.int 3),(Sum.inr [103,101,116],.int 2),(Sum.inr [115,101,116],.int 2),(Sum.inr [116,101,108,108],.int 1),(Sum.inr [104,97,108,116],.int 0)])]:=⟨_,rfl⟩;show BV M _ [Ya (.int c),Ya (.int (m:Int)),Ya (.ref a2),Ya (.str nm),Ya (.int (c / 11)),Ya (.ref a5),Ya (.ref S.length)] (S++[MO.dct (dictOf [(Sum.inr [97,100,100],.int 3),(Sum.inr [115,117,98],.int 3),(Sum.inr [109,111,114,101],.int 3),(Sum.inr [103,101,116],.int 2),(Sum.inr [115,101,116],.int 2),(Sum.inr [116,101,108,108],.int 1),(Sum.inr [104,97,108,116],.int 0)])]) _;rw[←hS1];have p1:S<+:S1:=by rw[hS1];exact iI _ _
  have gd:S1[S.length]?=Ya (.dct (dictOf [(Sum.inr [97,100,100],.int 3),(Sum.inr [115,117,98],.int 3),(Sum.inr [109,111,114,101],.int 3),(Sum.inr [103,101,116],.int 2),(Sum.inr [115,101,116],.int 2),(Sum.inr [116,101,108,108],.int 1),(Sum.inr [104,97,108,116],.int 0)])):=by rw[hS1];exact dN ..
  have l1:LF (bA (Za (Zb 3) (Zf))) [Ya (.int c),Ya (.int (m:Int)),Ya (.ref a2),Ya (.str nm),Ya (.int (c / 11)),Ya (.ref a5),Ya (.ref S.length)] S1 [.str nm]:=LF.lst rfl rfl;have l2:∀S',S1<+:S'->LE (mU (iK (aW (Zb 5) (aV) (aN (e2 pI (Zb 6) (Zb 3))))) 1 (fO 7) [] (Zx dR (Za (Zb 7) (Zf)))) [Ya (.int c),Ya (.int (m:Int)),Ya (.ref a2),Ya (.str nm),Ya (.int (c / 11)),Ya (.ref a5),Ya (.ref S.length)] S' ((is.map Zd).map D.str):=λS' KZ=>by
   have g6:=jB (p1.trans KZ) g5;have ix:(aN (e2 pI (Zb 6) (Zb 3))) [Ya (.int c),Ya (.int (m:Int)),Ya (.ref a2),Ya (.str nm),Ya (.int (c / 11)),Ya (.ref a5),Ya (.ref S.length)] S'= .ok (Ya (k:Int)) S':=by have q:(e2 pI (Zb 6) (Zb 3)) [Ya (.int c),Ya (.int (m:Int)),Ya (.ref a2),Ya (.str nm),Ya (.int (c / 11)),Ya (.ref a5),Ya (.ref S.length)] S'= .ok (.int (k:Int)) S':=Zg rfl rfl (by rw[Qu,jB KZ gd];show(match rN _ (Sum.inr nm)with|some d=>R3.ok d S'|none=>.bad)=_;rw[hd]);simp only[aN,q,R3.bind]
   have s:=ZnS (f:=Zb 5) (lo:=aV) (hi:=(aN (e2 pI (Zb 6) (Zb 3)))) (env:=[Ya (.int c),Ya (.int (m:Int)),Ya (.ref a2),Ya (.str nm),Ya (.int (c / 11)),Ya (.ref a5),Ya (.ref S.length)]) (a:=Ye) rfl g6 rfl ix;rw[yO,ht]at s;have lc:=Zpd (enc:=D.int) (h:=λi=>D.str (Zd i)) (own:=1) (i:=7) (it:=iK (aW (Zb 5) (aV) (aN (e2 pI (Zb 6) (Zb 3))))) (elt:=(Zx dR (Za (Zb 7) (Zf)))) (lock:=Ya S'.length) (as:=is) (M:=S') (M1:=S'++[.lst (is.map D.int)]) (env:=[Ya (.int c),Ya (.int (m:Int)),Ya (.ref a2),Ya (.str nm),Ya (.int (c / 11)),Ya (.ref a5),Ya (.ref S.length)])
    (by simp only[iK,s,R3.bind,dN]) (λn e=>by cases e;exact dN ..) (λi hi M'=>dh rfl (yR (F.num i hi))) (by have:=F.few.1;omega)
   refine⟨_,_,lc,(iI _ _).trans (iI _ _),?_⟩;rw[dN,Dm];rfl
  obtain⟨n9,S9,h9,p9,g9,_⟩:=LE.add (LF.le l1) l2 (by simp only[Yg,Yk];have:=F.few.1;omega);refine BV.ret (oG rfl h9 (R_ (ts:=nm::is.map Zd) (by rw[g9];rfl) (Ym (sS F.few.1 F.few.2 F.num).1 (by decide)))) (pS.trans (p1.trans p9))
 have put:NS[j]?=Ya (.str [112,117,116])->∃g ks,dW g.1 g.2 ks/\(∀n,m<=n->jn n g=true)/\pZ [.int c,.int (m:Int)] M= .ok (.str (aC g)) M:=λh=>by
  obtain⟨t,⟨g,ks,F,ok,rfl⟩,q⟩:=Ur (λt=>∃g ks,dW g.1 g.2 ks/\(∀n,m<=n->jn n g=true)/\t=aC g) [112,117,116] h λa2 a5 S pS g5=>by obtain⟨w,hw,hf⟩:=Zmm (c / 11 / 8) S;refine⟨_,⟨([112,117,116],[(x:Int),w]),[bx,[110,117,109,98,101,114]],oJ rfl rfl rfl rfl (iD (jH lx) (iD (KR hw (by decide)) oK)),λn _=>Zjc rfl (by decide),rfl⟩,BV.take (Zg rfl rfl ((eq_str _ _ _).trans rfl)) (BV.ret (three (by decide) (n8 lx) hw rfl (i0 g5) (x_ (Zg rfl rfl (iW (by decide))) hf)) pS)⟩
  exact⟨g,ks,F,ok,q⟩
 have jump:NS[j]?=Ya (.str oH)->∃g ks,dW g.1 g.2 ks/\(∀n,m<=n->jn n g=true)/\pZ [.int c,.int (m:Int)] M= .ok (.str (aC g)) M:=λh=>by refine⟨(oH,[(u:Int)]),[qU],oJ rfl rfl rfl rfl (iD (KR nu (by decide)) oK),λn hn=>(show jn n (oH,[(u:Int)])=(sU n (qU,(u:Int))&&true)from rfl).trans (by unfold sU;rw[Zo5 lu hn];rfl),pre oH _ h λa2 a5 S pS g5=>?_⟩;refine BV.skip (Zg rfl rfl ((eq_str _ _ _).trans rfl)) (BV.take (Zg rfl rfl ((eq_str _ _ _).trans rfl)) (BV.ret (Zg (Zg rfl rfl (iG (by decide))) (dh (Zg rfl rfl ((cY (by omega)).trans (by rw[hu]))) (yR nu)) ((iG (by have:=tl nu;simp only[Yi,Yo,ju];omega)).trans rfl)) pS))
 have when:NS[j]?=Ya (.str Ga)->∃g ks,dW g.1 g.2 ks/\(∀n,m<=n->jn n g=true)/\pZ [.int c,.int (m:Int)] M= .ok (.str (aC g)) M:=λh=>by refine⟨(Ga,[(x:Int),(v:Int)]),[bx,qU],oJ rfl rfl rfl rfl (iD (jH lx) (iD (KR nv (by decide)) oK)),λn hn=>(show jn n (Ga,[(x:Int),(v:Int)])=(true&&(sU n (qU,(v:Int))&&true))from rfl).trans (by unfold sU;rw[Zo5 lv hn];rfl),pre Ga _ h λa2 a5 S pS g5=>?_⟩;refine BV.skip (Zg rfl rfl ((eq_str _ _ _).trans rfl)) (BV.skip (Zg rfl rfl ((eq_str _ _ _).trans rfl)) (BV.take (Zg rfl rfl ((eq_str _ _ _).trans rfl)) (BV.ret (three (by decide) (n8 lx) nv rfl (i0 g5) (Zg (Zg rfl rfl (iW (by decide))) rfl ((cY (by omega)).trans (by rw[hv])))) pS)))
 have c11:j=0\/j=1\/j=2\/j=3\/j=4\/j=5\/j=6\/j=7\/j=8\/j=9\/j=10:=by omega
 rcases c11 with rfl|rfl|rfl|rfl|rfl|rfl|rfl|rfl|rfl|rfl|rfl
 .exact put (by rw[oM];rfl)
 .exact put (by rw[oM];rfl)
 .exact fin [97,100,100] 3 [(x:Int),y,z] [bx,bx,bx] (by rw[oM];rfl) (by decide) (by decide) (by decide) rfl rfl (oJ rfl rfl rfl rfl (iD (jH lx) (iD (jH ly) (iD (jH lz) oK)))) (by decide)
 .exact fin [115,117,98] 3 [(x:Int),y,z] [bx,bx,bx] (by rw[oM];rfl) (by decide) (by decide) (by decide) rfl rfl (oJ rfl rfl rfl rfl (iD (jH lx) (iD (jH ly) (iD (jH lz) oK)))) (by decide)
 .exact fin [109,111,114,101] 3 [(x:Int),y,z] [bx,bx,bx] (by rw[oM];rfl) (by decide) (by decide) (by decide) rfl rfl (oJ rfl rfl rfl rfl (iD (jH lx) (iD (jH ly) (iD (jH lz) oK)))) (by decide)
 .exact fin [103,101,116] 2 [(x:Int),y] [bx,bx] (by rw[oM];rfl) (by decide) (by decide) (by decide) rfl rfl (oJ rfl rfl rfl rfl (iD (jH lx) (iD (jH ly) oK))) (by decide)
 .exact fin [115,101,116] 2 [(x:Int),y] [bx,bx] (by rw[oM];rfl) (by decide) (by decide) (by decide) rfl rfl (oJ rfl rfl rfl rfl (iD (jH lx) (iD (jH ly) oK))) (by decide)
 .exact jump (by rw[oM];rfl)
 .exact when (by rw[oM];rfl)
 .exact fin [116,101,108,108] 1 [(x:Int)] [bx] (by rw[oM];rfl) (by decide) (by decide) (by decide) rfl rfl (oJ rfl rfl rfl rfl (iD (jH lx) oK)) (by decide)
 .exact fin hlt 0 [] [] (by rw[oM];rfl) (by decide) (by decide) (by decide) rfl rfl (oJ rfl rfl rfl rfl oK) (by decide)
theorem Zlt{P:GR->Prop}:∀(es:List D),(∀e∈es,∃g,e= .str (aC g)/\P g)->∃gs:List GR,es=(gs.map aC).map D.str/\∀g∈gs,P g
 |[],_=>⟨[],rfl,(λ_ z=>nomatch z)⟩|e::es,h=>by
  obtain⟨gs,rfl,q⟩:=Zlt es λe he=>h e (Yv _ he);obtain⟨g,rfl,p⟩:=h _ (Yu ..);refine⟨g::gs,rfl,λx hx=>?_⟩;rcases Y1.mp hx with rfl|hx
  .exact p
  .exact q x hx
theorem Zpc(ns:List Int)(st:Nat)(hst:st<3)(M:Store):∃gs,uT gs/\gs.length<=41/\(st=0->mF gs=true)/\(st=2->mF gs=false)/\FL Fz [.aH (ns.map D.int),.int (st:Int)] M ((gs.map aC).map D.str):=by
 obtain⟨cs,hcs⟩:∃cs,cutD ns (Ya 3) (Ya 43)=cs:=⟨_,rfl⟩;have lc:cs.length<=40:=by rw[←hcs];unfold cutD;rw[Y7,nO];have a1:aG ns.length 0 (Ya 3)=dm 3 ns.length:=En ns.length 0 3;have a2:aG ns.length ns.length (Ya 43)=dm 43 ns.length:=En ns.length ns.length 43;rw[a1,a2];omega
 obtain⟨m,hm⟩:∃m,m=cs.length+1:=⟨_,rfl⟩;obtain⟨fa,hfa⟩:∃fa,fa=if st=1 then m+2 else m:=⟨_,rfl⟩;have fb:0<fa/\fa<=43/\(st=0->fa=m):=by
  rw[hfa];by_cases h:st=1
  .rw[if_pos h];omega
  .rw[if_neg h];omega
 obtain⟨w,hw,lw⟩:=gw ((st:Int)*7) m (by omega);have nw:((w:Nat):Int).natAbs<10^60:=by rw[xM];exact Yz (show w<100 by omega) (by decide +kernel)
 have sl:(aW (Zb 0) (aN (eC (.int 3))) (aN (eC (.int 43)))) [Ya (.aH (ns.map D.int)),Ya (.int (st:Int)),Ye,Ye,Ye,Ye] M= .ok (.ref M.length) (M++[.lst (cs.map D.int)]):=by simp only[aW,Zb,nH,R3.bind,aN,eC,lM,lO,lQ,lR,ZjR,hcs,alloc]
 obtain⟨S,hS⟩:∃S,S=M++[MO.lst (cs.map D.int)]:=⟨_,rfl⟩;have gS:S[M.length]?=Ya (.lst (cs.map D.int)):=by rw[hS];exact dN ..
 rw[←hS]at sl;obtain⟨last,hla⟩:∃last:GR,last=if st=0 then(hlt,[])else if st=1 then(oH,[(w:Int)])else([116,101,108,108],[3]):=⟨_,rfl⟩;have tw:=Ck nw;have s3:st=0\/st=1\/st=2:=by omega
 obtain⟨kl,FL1⟩:∃ks,dW last.1 last.2 ks:=by
  rcases s3 with rfl|rfl|rfl
  .rw[hla];exact⟨[],oJ rfl rfl rfl rfl oK⟩
  .rw[hla];exact⟨[qU],oJ rfl rfl rfl rfl (iD (KR nw (by decide)) oK)⟩
  .rw[hla];exact⟨[bx],oJ rfl rfl rfl rfl (iD (jH (a:=3) (by decide)) oK)⟩
 have l5:∀{a d:Option D},(e2 aM (bA (Za (eC (.str [104,97,108,116])) (Za (e2 Zk (eC (.str [106,117,109,112,32])) (Zx dR (Za (e2 aQ (e2 cZ (Zb 1) (eC (.int 7))) (Zb 3)) (Zf)))) (Za (eC (.str [116,101,108,108,32,51])) (Zf))))) (e2 aQ (Zb 1) (eC (.int 3)))) [Ya (.aH (ns.map D.int)),Ya (.int (st:Int)),a,Ya (.int (m:Int)),d,Ye] S= .ok (.str (aC last)) (S++[.lst [.str [104,97,108,116],.str ([106,117,109,112,32]++Zd w),.str [116,101,108,108,32,51]]]):=λ{a d}=>by
  refine Zg (wJ (Zn rfl (Zn (Zg rfl (dh (Zg (Zg rfl rfl (wK (mul_r (by decide)))) rfl ((cY (by omega)).trans (by rw[hw]))) (yR nw)) (iG (by simp only[Yo,ju];omega))) (Zn rfl rfl))) rfl) (Zg rfl rfl (cY (by decide))) (ji (dN ..) ?_);rw[hla];rcases s3 with rfl|rfl|rfl
  .exact iw _ 0
  .exact iw _ 1
  .exact(iw _ 2).trans rfl
 obtain⟨S1,hS1⟩:∃S1,S1=S++[MO.lst [.str [104,97,108,116],.str ([106,117,109,112,32]++Zd w),.str [116,101,108,108,32,51]]]:=⟨_,rfl⟩;rw[←hS1]at l5;have g1:S1[M.length]?=Ya (.lst (cs.map D.int)):=by rw[hS1];exact Ak gS _
 obtain⟨ps,S',h1,p1,q1,e1,r1⟩:∃(ps:List (D×D)) (S':Store),(mU (iK (Zb 2)) 1 (fO 6) [] (aR pZ (Za (Zb 6) (Za (Zb 4) (Zf))))) [Ya (.aH (ns.map D.int)),Ya (.int (st:Int)),Ya (.ref M.length),Ya (.int (m:Int)),Ya (.int (fa:Int)),Ya (.str (aC last))] S1= .ok (.ref S1.length) S'/\S1<+:S'/\S'[S1.length]?=Ya (.lst (ps.map (·.2)))/\ps.map (·.1)=cs.map D.int/\∀p∈ps,(λ(_ e:D) (_:Store)=>∃g,e= .str (aC g)/\(∃ks,dW g.1 g.2 ks)/\∀n,fa<=n->jn n g=true) p.1 p.2 S':=
  Zwt (R:=λ_ e _=>∃g,e= .str (aC g)/\(∃ks,dW g.1 g.2 ks)/\∀n,fa<=n->jn n g=true) (lock:=Ya M.length) (λ_ _ _ _ h _=>h) (by simp only[iK,Zb,qj,nH,R3.bind,g1]) (λn z=>by cases z;exact g1) (by rw[Yg];omega)
   (λd hd T lT o=>by obtain⟨c,_,rfl⟩:=jD.mp hd;obtain⟨g,ks,F,ok,h⟩:=Zqy c fa fb.1 (by omega) T;exact⟨_,T,j9 rfl rfl h,vA _,g,rfl,⟨ks,F⟩,ok⟩)
 obtain⟨gs,eg,qg⟩:=Zlt (P:=λg=>(∃ks,dW g.1 g.2 ks)/\∀n,fa<=n->jn n g=true) (ps.map (·.2)) λe he=>by obtain⟨p,hp,rfl⟩:=jD.mp he;exact r1 p hp
 have lg:gs.length=cs.length:=by have x1:=congrArg tV eg;have x2:=congrArg tV e1;simp only[Yg]at x1 x2;omega
 have ln:(gs++[last]).length=m:=by rw[Yi,Yk];omega
 have gl:(gs++[last]).getLast?=Ya last:=by simp
 refine⟨gs++[last],⟨λr hr=>?_,by omega,by simp⟩,by omega,λh=>?_,λh=>?_,?_⟩
 .rcases gk.mp hr with hr|hr
  .exact(qg r hr).1
  .rw[nJ.mp hr];exact⟨kl,FL1⟩
 .unfold mF;rw[gl,ln];have e:last=(hlt,[]):=by rw[hla,if_pos h]
  have a:(gs++[last]).all (jn m)=true:=fB.mpr λr hr=>by
   rcases gk.mp hr with hr|hr
   .exact(qg r hr).2 m (by have:=fb.2.2 h;omega)
   .rw[nJ.mp hr,e];rfl
  rw[a,e];rfl
 .unfold mF;rw[gl];have e:last=([116,101,108,108],[3]):=by rw[hla,if_neg (by omega),if_neg (by omega)]
  rw[e];rfl
 .refine FL.of (env:=[Ya (.aH (ns.map D.int)),Ya (.int (st:Int)),Ye,Ye,Ye,Ye]) ?_ rfl rfl;unfold R6;refine BL.step (b_ sl) (BL.dX (d:=.int (m:Int)) (Zg (dh rfl (ux gS)) rfl (by rw[Yg,hm];rfl)) (BL.dX (d:=.int (m:Int)) rfl ?_));rw[eg]at q1;have rest:BL M (Zo (aD 5 (e2 aM (bA (Za (eC (.str [104,97,108,116])) (Za (e2 Zk (eC (.str [106,117,109,112,32])) (Zx dR (Za (e2 aQ (e2 cZ (Zb 1) (eC (.int 7))) (Zb 3)) (Zf)))) (Za (eC (.str [116,101,108,108,32,51])) (Zf))))) (e2 aQ (Zb 1) (eC (.int 3))))) (aK (e2 Zk (mU (iK (Zb 2)) 1 (fO 6) [] (aR pZ (Za (Zb 6) (Za (Zb 4) (Zf))))) (bA (Za (Zb 5) (Zf)))))) [Ya (.aH (ns.map D.int)),Ya (.int (st:Int)),Ya (.ref M.length),Ya (.int (m:Int)),Ya (.int (fa:Int)),Ye] S (((gs++[last]).map aC).map D.str):=by
   refine BL.step (b_ l5) (BL.ret ?_ (by rw[hS1,hS,jC];exact iI _ _));have e:((gs++[last]).map aC).map D.str=(gs.map aC).map D.str++[.str (aC last)]:=by rw[nP,nP];rfl
   rw[e];exact LE.add ⟨_,_,h1,p1,q1⟩ (λS2 _=>LF.le (LF.lst rfl rfl)) (by simp only[Yg,Yk];omega)
  by_cases h:st=1
  .have e:fa=m+2:=by rw[hfa,if_pos h]
   rw[e]at rest;exact BL.step (M:=S) (env':=[Ya (.aH (ns.map D.int)),Ya (.int (st:Int)),Ya (.ref M.length),Ya (.int (m:Int)),Ya (.int ((m+2:Nat):Int)),Ye]) ((iQ (Zg rfl rfl (Ez (by omega)))).trans (b_ (Zg rfl rfl rfl))) rest
  .have e:fa=m:=by rw[hfa,if_neg h]
   rw[e]at rest;exact BL.skip (Zg rfl rfl (EY (by omega))) rest
def e_(w:List Nat):Prop:=32∉w/\10∉w/\w.length<=200
theorem yS(h:i.natAbs<10^60):e_ (Zd i):=⟨λz=>absurd ((uR i h).2.2 32 z) (by decide),λz=>absurd ((uR i h).2.2 10 z) (by decide),Ym (Ck h) (by decide)⟩
theorem Sw{nm:List Nat}(F:dW nm is ks):e_ nm:=⟨λz=>absurd (F.abc 32 z) (by decide),λz=>absurd (F.abc 10 z) (by decide),Ym F.few.2 (by decide)⟩
theorem Sx{nm:List Nat}(F:dW nm is ks):∀w∈is.map Zd,e_ w:=λw hw=>by obtain⟨i,hi,rfl⟩:=jD.mp hw;exact yS (F.num i hi)
theorem uU{nm:List Nat}(F:dW nm is ks):∀w∈nm::is.map Zd,e_ w:=λw hw=>by
 rcases Y1.mp hw with rfl|hw
 .exact Sw F
 .exact Sx F w hw
theorem iY(h:(w.all λc=>decide (c≠32/\c≠10))=true)(hl:w.length<=200):e_ w:=⟨λz=>(of_decide_eq_true (fB.mp h 32 z)).1 rfl,λz=>(of_decide_eq_true (fB.mp h 10 z)).2 rfl,hl⟩
theorem oN(h:∀w∈ws,e_ w)(hn:ws≠[])(hf:ws.length<=20)(B:yP ws):jo (glue [32] ws):=Zns ⟨hn,h,hf⟩ B
theorem K1{s:Nat}:∀(a b:List (List Nat)),a≠[]->b≠[]->glue [s] (a++b)=glue [s] a++([s]++glue [s] b)
 |[],_,h,_=>absurd rfl h|[x],b,_,h=>by
  cases b with
  |nil=>exact absurd rfl h|cons y b=>exact sI ..
 |x::y::a,b,_,h=>by have q:=K1 (s:=s) (y::a) b (λz=>nomatch z) h;rw[sI,o6,o6,sI,←o6,q];simp only[jC]
theorem Cm(h:(fV w).head?=Ya 48)(hw:w≠[48]):jG w=false:=by unfold jG;rw[if_pos h,decide_eq_false hw,Du]
theorem Cp{c:Nat}(h:c∈fV w)(hc:c∉sO)(hw:w≠[48]):jG w=false:=by
 by_cases q:(fV w).head?=Ya 48
 .exact Cm q hw
 .unfold jG;rw[if_neg q];have:((fV w).all λc=>decide (c∈sO))=false:=Wc.mpr λz=>hc (of_decide_eq_true (fB.mp z c h));rw[this,Du]
theorem nb3(h:60<(fV w).length):jG w=false:=by unfold jG;rw[decide_eq_false (Nat.not_le.mpr h),Du];rfl
theorem Zia(w:List Nat)(c:Nat)(hw:w≠[]):c∈fV (w++[c]):=by
 cases w with
 |nil=>exact absurd rfl hw|cons a w=>
  unfold fV;split
  .rename_i r e;rw[o6]at e;rw[←(qt e).2];simp
  .simp
theorem ZpE(i:Int):Zd i≠[]:=by
 cases i with
 |ofNat n=>rw[show Zd (Int.ofNat n)=cG n from FW n];exact FQ n|negSucc n=>rw[Kz];exactλz=>nomatch z
def NB(b:List Nat):Prop:=jG b=false/\e_ b
variable{P:D->Prop}
theorem Gf(h:∀d∈xs,P d){j:Nat}(hj:j<xs.length):∃d,dM xs (j:Int)=Ya d/\P d:=⟨xs[j],by rw[iw];exact Y2 hj,h _ (o5 hj)⟩
theorem cD{a:D}{l:List D}(h:P a)(t:∀d∈l,P d):∀d∈a::l,P d:=λd hd=>by
 rcases Y1.mp hd with rfl|hd
 .exact h
 .exact t d hd
theorem Gg:∀d∈([]:List D),P d:=λ_ z=>nomatch z
theorem Zmp(hi:i.natAbs<10^60)(c:Int)(M:Store):∃b,NB b/\yJ [.str (Zd i),.int c] M= .ok (.str b) M:=by
 obtain⟨w,hw⟩:∃w,w=Zd i:=⟨_,rfl⟩;have W:e_ w:=hw▸yS hi;have lw:w.length<=61:=hw▸Ck hi;have nw:w≠[]:=hw▸ZpE i;rw[←hw];have ge:∀c∈w,45<=c:=by rw[hw];exact(uR i hi).2.2
 have m9:∀{S:Store},cZ (.str [57]) (.int 61) S= .ok (.str (Yj 61 [57]).flatten) S:=by intro S;rw[JG];exact if_pos (by decide)
 have m1:∀{S:Store},cZ (.str [49]) (.int 61) S= .ok (.str (Yj 61 [49]).flatten) S:=by intro S;rw[JG];exact if_pos (by decide)
 have ad:∀{a b:List Nat} {S:Store},a.length<=100->b.length<=100->Zk (.str a) (.str b) S= .ok (.str (a++b)) S:=λh1 h2=>iG (by omega);have wo:∀{a b:List Nat},e_ a->e_ b->a.length+b.length<=200->e_ (a++b):=λh1 h2 h3=>⟨λz=>(gk.mp z).elim h1.1 h2.1,λz=>(gk.mp z).elim h1.2.1 h2.2.1,by rw[Yi];exact h3⟩;obtain⟨j,hj,lj⟩:=gw c 13 (by decide);have hj':c % 13=(j:Int):=hj;obtain⟨X,hX⟩:∃X:List D,X=[.str ([48]++w),.str ([43]++w),.str [45,48],.str [48,48],.str [49,95,48],.str [97],.str (w++[97]),.str (w++[46]),.str (Yj 61 [57]).flatten,.str [45,45,49],.str [48,120,49]]:=⟨_,rfl⟩;obtain⟨Y,hY⟩:∃Y:List D,Y=[.str ([45]++(Yj 61 [49]).flatten),.str ([45,48]++w)]:=⟨_,rfl⟩;have w1:w++[97]≠[48]:=λz=>nw (by have:=congrArg tV z;simp at this;exact this);have w2:w++[46]≠[48]:=λz=>nw (by have:=congrArg tV z;simp at this;exact this);have c0:∀{a:List Nat},a++w≠[48]\/a=[]:=by
  intro a;by_cases h:a=[]
  .exact .inr h
  .refine .inl λz=>nw ?_;have:=congrArg tV z;rw[Yi]at this;have l1:0<a.length:=Nx.mpr h;exact Dh (by simp at this;omega)
 have aX:∀d∈X++Y,∃b,d= .str b/\NB b:=by
  rw[hX,hY];refine cD ⟨_,rfl,Cm rfl (c0.resolve_right (by decide)),wo (iY rfl (by decide)) W (by simp only[Yk];omega)⟩
   (cD ⟨_,rfl,Cp (c:=43) (Yu ..) (by decide) (c0.resolve_right (by decide)),wo (iY rfl (by decide)) W (by simp only[Yk];omega)⟩
   (cD ⟨_,rfl,Cm rfl (by decide),iY rfl (by decide)⟩ (cD ⟨_,rfl,Cm rfl (by decide),iY rfl (by decide)⟩ (cD ⟨_,rfl,Cp (c:=95) (by decide) (by decide) (by decide),iY rfl (by decide)⟩ (cD ⟨_,rfl,Cp (c:=97) (by decide) (by decide) (by decide),iY rfl (by decide)⟩
   (cD ⟨_,rfl,Cp (c:=97) (Zia w 97 nw) (by decide) w1,wo W (iY rfl (by decide)) (by simp only[Yk];omega)⟩
   (cD ⟨_,rfl,Cp (c:=46) (Zia w 46 nw) (by decide) w2,wo W (iY rfl (by decide)) (by simp only[Yk];omega)⟩
   (cD ⟨_,rfl,nb3 (by decide),iY (by decide) (by decide)⟩ (cD ⟨_,rfl,Cp (c:=45) (by decide) (by decide) (by decide),iY rfl (by decide)⟩ (cD ⟨_,rfl,Cm rfl (by decide),iY rfl (by decide)⟩
   (cD ⟨_,rfl,nb3 (by decide),iY (by decide) (by decide)⟩ (cD ⟨_,rfl,Cm rfl (c0.resolve_right (by decide)),wo (iY rfl (by decide)) W (by simp only[Yo,ju];omega)⟩ Gg))))))))))))
 obtain⟨d,gd,b,rfl,hb⟩:=Gf aX (j:=j) (by rw[hX,hY];exact lj);refine⟨b,hb,BV.pure (env:=[Ya (.str w),Ya (.int c),Ye]) ?_ rfl⟩;unfold R7;have l0:∀{a:List Nat},a.length<=5->a.length<=100:=λh=>Ym h (by decide);have Gh:w.length<=100:=by omega
 refine BV.set (x:=X) (LF.le (LF.lst (by rw[hX];exact Zn (Zg rfl rfl (ad (by decide) Gh)) (Zn (Zg rfl rfl (ad (by decide) Gh)) (Zn rfl (Zn rfl (Zn rfl (Zn rfl (Zn (Zg rfl rfl (ad Gh (by decide))) (Zn (Zg rfl rfl (ad Gh (by decide))) (Zn (Zg rfl rfl m9) (Zn rfl (Zn rfl rfl))))))))))) (by rw[hX];rfl))) λn2 S pS gS=>?_;obtain⟨n3,S3,h3,p3,g3,_⟩:=LE.add (LE.var (i:=2) (env:=[Ya (.str w),Ya (.int c),Ya (.ref n2)]) rfl gS) (λS' _=>LF.le (LF.lst (ds:=Y) (g:=(Za (e2 Zk (eC (.str [45])) (e2 cZ (eC (.str [49])) (eC (.int 61)))) (Za (e2 Zk (eC (.str [45,48])) (Zb 0)) (Zf)))) (env:=[Ya (.str w),Ya (.int c),Ya (.ref n2)]) (M:=S') (by rw[hY];exact Zn (Zg rfl (Zg rfl rfl m1) (ad (by decide) (by decide))) (Zn (Zg rfl rfl (ad (by decide) Gh)) rfl)) (by rw[hY];rfl))) (by rw[hX,hY];exact kY rfl);exact BV.ret (Zg h3 (Zg rfl rfl ((cY (by decide)).trans (by rw[hj']))) (ji g3 gd)) (pS.trans p3)
theorem Gi{x:List Nat}{ks:List (List Nat)}:∀{t:qK},tabAt x t=Ya ks->(x,ks)∈t
 |[],h=>nomatch h|(k,v)::t,h=>by
  unfold tabAt at h;by_cases e:x=k
  .rw[if_pos e]at h;cases h;rw[e];exact Yu ..
  .rw[if_neg e]at h;exact Yv _ (Gi h)
noncomputable abbrev TEN:List (List Nat):=[[112,117,116],[97,100,100],[115,117,98],[109,111,114,101],[103,101,116],[115,101,116],[106,117,109,112],[119,104,101,110],[116,101,108,108],[104,97,108,116]]
theorem ZlM(h:w∉TEN):tabAt w di=Ye:=by
 cases q:tabAt w di with
 |none=>rfl|some ks=>refine absurd ?_ h;have m:=List.mem_map_of_mem (f:=Prod.fst) (Gi q);exact m
theorem Zpq{c:Nat}(h:c∈w)(hc:c<97):tabAt w di=Ye:=by
 cases q:tabAt w di with
 |none=>rfl|some ks=>
  have m:=Gi q;have a:∀p∈di,∀c∈p.1,97<=c:=by decide
  exact absurd (a _ m c h) (by omega)
def OW(w:List Nat):Prop:=(∀c∈w,c≠32/\c≠10)/\w.length<=20
theorem OW.wok(h:OW w):e_ w:=⟨λz=>(h.1 32 z).1 rfl,λz=>(h.1 10 z).2 rfl,Ym h.2 (by decide)⟩
theorem Gj{a b:List Nat}(ha:∀c∈a,c≠32/\c≠10)(hb:∀c∈b,c≠32/\c≠10)(hl:a.length+b.length<=20):OW (a++b):=⟨λc hc=>(gk.mp hc).elim (ha c) (hb c),by rw[Yi];exact hl⟩
theorem ZvG(h:(w.all λc=>decide (c≠32/\c≠10))=true)(hl:w.length<=20):OW w:=⟨λc hc=>of_decide_eq_true (fB.mp h c hc),hl⟩
theorem Zsf(ts:List (List Nat))(M:Store):jy (.str w) (.tup (ts.map D.str)) M= .ok (.bl (decide (w∈ts))) M:=by
 have f:(ts.map D.str).all eY=true:=by rw[HF];exact fB.mpr λ_ _=>rfl
 have a:((ts.map D.str).any λy=>fD y (.str w))=decide (w∈ts):=by
  induction ts with
  |nil=>rfl|cons t ts ih=>
   have f':(ts.map D.str).all eY=true:=by rw[HF];exact fB.mpr λ_ _=>rfl
   rw[Yy,qm,ih f',ZqT];rw[Dt,vD,beq_iff_eq,decide_eq_true_eq,decide_eq_true_eq,Y1];exact⟨λz=>z.elim (λe=>.inl e.symm) .inr,λz=>z.elim (λe=>.inl e.symm) .inr⟩
 simp only[jy,Qt];rw[f];simp only[eY,vG,if_true,a]
theorem Zpa{nm:List Nat}(hn:sG nm=true)(h1:1<=nm.length)(h4:nm.length<=4)(c:Int)(M:Store):∃w,e_ w/\tabAt w di=Ye/\Bq [.str nm,.int c] M= .ok (.str w) M:=by
 have fr:∀x∈nm,x≠32/\x≠10:=λx hx=>by have q:=fB.mp hn x hx;have:=kY (Yaj.mp q).1;omega
 obtain⟨j,hj,lj⟩:=gw (c / 5) 30 (by decide);have hj':c / 5 % 30=(j:Int):=hj;obtain⟨a,ha,la⟩:=gw (c / 150) nm.length h1;obtain⟨o,ho,lo⟩:=gw (c / 5) 12 (by decide);have ho':c / 5 % 12=(o:Int):=ho;obtain⟨LT,Gk⟩:∃LT:List Nat,LT=[97,98,99,100,101,102,103,104,105,106,107,108,109,110,111,112,113,114,115,116,117,118,119,120,121,122,65,49,45,95]:=⟨_,rfl⟩;obtain⟨sg,hsg,osg⟩:∃sg:Nat,LT[j]?=Ya sg/\sg≠32/\sg≠10:=by
  have l:j<LT.length:=by rw[Gk];exact lj
  refine⟨LT[j],Y2 l,?_⟩;have m:LT[j]∈LT:=o5 l;have al:∀x∈LT,x≠32/\x≠10:=by rw[Gk];decide
  exact al _ m
 have up:(nm.map λc=>c-32).length=nm.length:=Yg ..;obtain⟨X,hX⟩:∃X:List D,X=[.str [109,117,108],.str [100,105,118],.str [103,111,116,111],.str [115,116,111,112],.str [112,114,105,110,116],.str [108,101,115,115],.str [105,102],.str [101,110,100],.str [99,101,108,108],.str [55],.str (nm.map λc=>c-32),.str (nm++[115])]:=⟨_,rfl⟩;have upf:∀x∈nm.map (λc=>c-32),x≠32/\x≠10:=λx hx=>by obtain⟨y,hy,rfl⟩:=jD.mp hx;have q:=fB.mp hn y hy;have:=kY (Yaj.mp q).1;omega
 have aX:∀d∈X,∃b,d= .str b/\OW b:=by rw[hX];have k:∀{b:List Nat},(b.all λc=>decide (c≠32/\c≠10))=true->b.length<=20->∃b',D.str b= .str b'/\OW b':=λh1 h2=>⟨_,rfl,ZvG h1 h2⟩;exact cD (k rfl (by decide)) (cD (k rfl (by decide)) (cD (k rfl (by decide)) (cD (k rfl (by decide)) (cD (k rfl (by decide)) (cD (k rfl (by decide)) (cD (k rfl (by decide)) (cD (k rfl (by decide)) (cD (k rfl (by decide)) (cD (k rfl (by decide)) (cD ⟨_,rfl,upf,by omega⟩ (cD ⟨_,rfl,Gj fr (by decide) (by simp only[Yk];omega)⟩ Gg)))))))))))
 obtain⟨d,gd,b,rfl,hb⟩:=Gf aX (j:=o) (by rw[hX];exact lo)
 suffices q:∃w,e_ w/\tabAt w di=Ye/\BV M Kv [Ya (.str nm),Ya (.int c),Ye,Ye,Ye,Ye,Ye] M (.str w)by obtain⟨w,h1,h2,q⟩:=q;exact⟨w,h1,h2,BV.pure (env:=[Ya (.str nm),Ya (.int c),Ye,Ye,Ye,Ye,Ye]) q rfl⟩
 unfold Kv;obtain⟨n3,S,s3,pS,gS⟩:LE (bA (Za (eC (.str [109,117,108])) (Za (eC (.str [100,105,118])) (Za (eC (.str [103,111,116,111])) (Za (eC (.str [115,116,111,112])) (Za (eC (.str [112,114,105,110,116])) (Za (eC (.str [108,101,115,115])) (Za (eC (.str [105,102])) (Za (eC (.str [101,110,100])) (Za (eC (.str [99,101,108,108])) (Za (eC (.str [55])) (Za (aZ bC sH (Zb 0) (Zf)) (Za (e2 Zk (Zb 0) (eC (.str [115]))) (Zf)))))))))))))) [Ya (.str nm),Ya (.int c),Ya (.str LT),Ye,Ye,Ye,Ye] M X:=by
  have u:(aZ bC sH (Zb 0) (Zf)) [Ya (.str nm),Ya (.int c),Ya (.str LT),Ye,Ye,Ye,Ye] M= .ok (.str (nm.map λc=>c-32)) M:=by simp only[aZ,Zb,nH,R3.bind,Qw,if_true,Zf,RZ];exact if_pos ⟨hn,by omega⟩
  refine LF.le (LF.lst ?_ (by rw[hX];rfl));rw[hX];exact Zn rfl (Zn rfl (Zn rfl (Zn rfl (Zn rfl (Zn rfl (Zn rfl (Zn rfl (Zn rfl (Zn rfl (Zn u (Zn (Zg rfl rfl (iG (by simp only[Yk];omega))) rfl)))))))))))
 have Sy:∀{lo hi:rO} {env:Zu} {S:Store} {x:List Nat} {p q:Option Int} {f:E3},f env S= .ok (.str x) S->x.length<=1000->lo env S= .ok p S->hi env S= .ok q S->aW f lo hi env S= .ok (.str (cutD x p q)) S:=λh1 h2 h3 h4=>by simp only[aW,h1,h3,h4,R3.bind,lM,lO,lQ,lR];exact if_pos (Ym h2 (by decide))
 have len:∀{a b d e f:Option D} {S:Store},(Zx a_ (Za (Zb 0) (Zf))) [Ya (.str nm),a,b,d,e,f,Ye] S= .ok (.int (nm.length:Int)) S:=dh (a:=.str nm) rfl (by simp only[z_,Aa,Ab,rP];exact if_pos (Ym h4 (by decide)));have sgI:(e2 aM (Zb 2) (e2 aQ (e2 bD (Zb 1) (eC (.int 5))) (eC (.int 30)))) [Ya (.str nm),Ya (.int c),Ya (.str LT),Ya (.ref n3),Ye,Ye,Ye] S= .ok (.str [sg]) S:=by
  refine Zg rfl (Zg (Zg rfl rfl (iW (by decide))) rfl ((cY (by decide)).trans (by rw[hj']))) ?_;have:dM LT (j:Int)=Ya sg:=(iw _ _).trans hsg;simp only[JH,JK,JL,JM,this]
  try exact if_pos (by rw[Gk];decide)
 have au:(e2 aQ (e2 bD (Zb 1) (eC (.int 150))) (Zx a_ (Za (Zb 0) (Zf)))) [Ya (.str nm),Ya (.int c),Ya (.str LT),Ya (.ref n3),Ya (.str [sg]),Ye,Ye] S= .ok (.int (a:Int)) S:=Zg (Zg rfl rfl (iW (by decide))) len ((cY (by omega)).trans (by rw[ha]));have tk:∀{x:Option D},(aW (Zb 0) (aV) (aN (Zb 5))) [Ya (.str nm),Ya (.int c),Ya (.str LT),Ya (.ref n3),Ya (.str [sg]),Ya (.int (a:Int)),x] S= .ok (.str (nm.take a)) S:=(Sy rfl (by omega) rfl rfl).trans (by rw[yO]);have dp:∀{x:Option D},(aW (Zb 0) (aN (e2 Zk (Zb 5) (eC (.int 1)))) (aV)) [Ya (.str nm),Ya (.int c),Ya (.str LT),Ya (.ref n3),Ya (.str [sg]),Ya (.int (a:Int)),x] S= .ok (.str (nm.drop (a+1))) S:=(Sy (p:=Ya ((a+1:Nat):Int)) rfl (by omega) rfl rfl).trans (by rw[oF]);have dp0:∀{x:Option D},(aW (Zb 0) (aN (Zb 5)) (aV)) [Ya (.str nm),Ya (.int c),Ya (.str LT),Ya (.ref n3),Ya (.str [sg]),Ya (.int (a:Int)),x] S= .ok (.str (nm.drop a)) S:=(Sy rfl (by omega) rfl rfl).trans (by rw[oF]);have lt:(nm.take a).length<=4:=by rw[Y7];omega
 have ld:(nm.drop (a+1)).length<=4:=by rw[nO];omega
 have ld0:(nm.drop a).length<=4:=by rw[nO];omega
 have ft:∀x∈nm.take a,x≠32/\x≠10:=λx hx=>fr x (zu hx);have fd:∀{n:Nat},∀x∈nm.drop n,x≠32/\x≠10:=λx hx=>fr x (Hy hx);have fs:∀x∈[sg],x≠32/\x≠10:=λx hx=>by rw[nJ.mp hx];exact osg
 have m5:∀{x:Option D},(e2 aQ (Zb 1) (eC (.int 5))) [Ya (.str nm),Ya (.int c),Ya (.str LT),Ya (.ref n3),Ya (.str [sg]),Ya (.int (a:Int)),x] S= .ok (.int (c % 5)) S:=Zg rfl rfl (cY (by decide));have G8:∀fw,OW fw->∃w,e_ w/\tabAt w di=Ye/\BV M (Zo (aJ (e2 jy (Zb 6) (n6 (Za (eC (.str [112,117,116])) (Za (eC (.str [97,100,100])) (Za (eC (.str [115,117,98])) (Za (eC (.str [109,111,114,101])) (Za (eC (.str [103,101,116])) (Za (eC (.str [115,101,116])) (Za (eC (.str [106,117,109,112])) (Za (eC (.str [119,104,101,110])) (Za (eC (.str [116,101,108,108])) (Za (eC (.str [104,97,108,116])) (Zf))))))))))))) (aK (e2 Zk (Zb 6) (eC (.str [120])))) (aU)) (aK (Zb 6))) [Ya (.str nm),Ya (.int c),Ya (.str LT),Ya (.ref n3),Ya (.str [sg]),Ya (.int (a:Int)),Ya (.str fw)] S (.str w):=λfw hf=>by
  have i8:(e2 jy (Zb 6) (n6 (Za (eC (.str [112,117,116])) (Za (eC (.str [97,100,100])) (Za (eC (.str [115,117,98])) (Za (eC (.str [109,111,114,101])) (Za (eC (.str [103,101,116])) (Za (eC (.str [115,101,116])) (Za (eC (.str [106,117,109,112])) (Za (eC (.str [119,104,101,110])) (Za (eC (.str [116,101,108,108])) (Za (eC (.str [104,97,108,116])) (Zf))))))))))))) [Ya (.str nm),Ya (.int c),Ya (.str LT),Ya (.ref n3),Ya (.str [sg]),Ya (.int (a:Int)),Ya (.str fw)] S= .ok (.bl (decide (fw∈TEN))) S:=Zg rfl (QD rfl rfl) (Zsf TEN S);by_cases h:fw∈TEN
  .rw[decide_eq_true h]at i8;refine⟨fw++[120],(Gj (b:=[120]) hf.1 (by decide) (NZ (show fw.length<=4 from ?_) (by decide:([120]:List Nat).length<=16))).wok,ZlM λz=>?_,BV.take i8 (BV.ret (Zg rfl rfl (iG (by have:=hf.2;simp only[Yk];omega))) pS)⟩
   .have al:∀t∈TEN,t.length<=4:=by decide
    exact al fw h
   .have al:∀t∈TEN,t.getLast?≠Ya 120:=by decide
    exact al _ z (by simp)
  .rw[decide_eq_false h]at i8;exact⟨fw,hf.wok,ZlM h,BV.skip i8 (BV.ret rfl pS)⟩
 have G7:∀fw,OW fw->∃w,e_ w/\tabAt w di=Ye/\BV M (Zo (aJ (e2 eX (e2 aQ (Zb 1) (eC (.int 5))) (eC (.int 2))) (aD 6 (e2 aM (Zb 3) (e2 aQ (e2 bD (Zb 1) (eC (.int 5))) (eC (.int 12))))) (aU)) (Zo (aJ (e2 jy (Zb 6) (n6 (Za (eC (.str [112,117,116])) (Za (eC (.str [97,100,100])) (Za (eC (.str [115,117,98])) (Za (eC (.str [109,111,114,101])) (Za (eC (.str [103,101,116])) (Za (eC (.str [115,101,116])) (Za (eC (.str [106,117,109,112])) (Za (eC (.str [119,104,101,110])) (Za (eC (.str [116,101,108,108])) (Za (eC (.str [104,97,108,116])) (Zf))))))))))))) (aK (e2 Zk (Zb 6) (eC (.str [120])))) (aU)) (aK (Zb 6)))) [Ya (.str nm),Ya (.int c),Ya (.str LT),Ya (.ref n3),Ya (.str [sg]),Ya (.int (a:Int)),Ya (.str fw)] S (.str w):=λfw hf=>by
  by_cases h:2<c % 5
  .obtain⟨w,q1,q2,q3⟩:=G8 b hb;exact⟨w,q1,q2,BV.step ((iQ (M':=S) (Zg m5 rfl (by simp only[vX,decide_eq_true h]))).trans (b_ (Zg rfl (Zg (Zg rfl rfl (iW (by decide))) rfl ((cY (by decide)).trans (by rw[ho']))) (ji gS gd)))) q3⟩
  .obtain⟨w,q1,q2,q3⟩:=G8 fw hf;exact⟨w,q1,q2,BV.skip (Zg m5 rfl (by simp only[vX,decide_eq_false h])) q3⟩
 have G6:∀fw,OW fw->∃w,e_ w/\tabAt w di=Ye/\BV M (Zo (aJ (e2 bh (e2 aQ (Zb 1) (eC (.int 5))) (eC (.int 2))) (aD 6 (e2 Zk (e2 Zk (aW (Zb 0) (aV) (aN (Zb 5))) (Zb 4)) (aW (Zb 0) (aN (Zb 5)) (aV)))) (aU)) (Zo (aJ (e2 eX (e2 aQ (Zb 1) (eC (.int 5))) (eC (.int 2))) (aD 6 (e2 aM (Zb 3) (e2 aQ (e2 bD (Zb 1) (eC (.int 5))) (eC (.int 12))))) (aU)) (Zo (aJ (e2 jy (Zb 6) (n6 (Za (eC (.str [112,117,116])) (Za (eC (.str [97,100,100])) (Za (eC (.str [115,117,98])) (Za (eC (.str [109,111,114,101])) (Za (eC (.str [103,101,116])) (Za (eC (.str [115,101,116])) (Za (eC (.str [106,117,109,112])) (Za (eC (.str [119,104,101,110])) (Za (eC (.str [116,101,108,108])) (Za (eC (.str [104,97,108,116])) (Zf))))))))))))) (aK (e2 Zk (Zb 6) (eC (.str [120])))) (aU)) (aK (Zb 6))))) [Ya (.str nm),Ya (.int c),Ya (.str LT),Ya (.ref n3),Ya (.str [sg]),Ya (.int (a:Int)),Ya (.str fw)] S (.str w):=λfw hf=>by
  by_cases h:c % 5=2
  .obtain⟨w,q1,q2,q3⟩:=G7 (nm.take a++[sg]++nm.drop a) (Gj (λx hx=>(gk.mp hx).elim (ft x) (fs x)) fd (by rw[Yi,Yk];omega));exact⟨w,q1,q2,BV.step ((iQ (Zg m5 rfl (Ez h))).trans (b_ (Zg (Zg tk rfl (iG (by simp only[Yk];omega))) dp0 (iG (by rw[Yi,Yk];omega))))) q3⟩
  .obtain⟨w,q1,q2,q3⟩:=G7 fw hf;exact⟨w,q1,q2,BV.skip (Zg m5 rfl (EY h)) q3⟩
 have ow0:OW (nm.take a++nm.drop (a+1)):=Gj ft fd (by omega);have s6:=Zg (op:=Zk) (tk (x:=Ye)) dp (iG (by omega));by_cases h:c % 5=1
 .obtain⟨w,q1,q2,q3⟩:=G6 (nm.take a++[sg]++nm.drop (a+1)) (Gj (λx hx=>(gk.mp hx).elim (ft x) (fs x)) fd (by rw[Yi,Yk];omega));refine⟨w,q1,q2,BV.dX (e:=.str LT) (S:=M) (by rw[Gk];rfl) (BV.dX s3 (BV.dX sgI (BV.dX au (BV.dX s6 (BV.step ((iQ (Zg m5 rfl (Ez h))).trans (b_ (Zg (Zg tk rfl (iG (by simp only[Yk];omega))) dp (iG (by rw[Yi,Yk];omega))))) q3)))))⟩
 .obtain⟨w,q1,q2,q3⟩:=G6 _ ow0;exact⟨w,q1,q2,BV.dX (e:=.str LT) (S:=M) (by rw[Gk];rfl) (BV.dX s3 (BV.dX sgI (BV.dX au (BV.dX s6 (BV.skip (Zg m5 rfl (EY h)) q3)))))⟩
noncomputable def Zug:S3:=aK (e2 aM (bA (Za (eC (.str [])) (Za (eC (.str [])) (Za (eC (.str [32])) (Za (eC (.str [32,32])) (Zf)))))) (e2 aQ (Zb 4) (eC (.int 4))))
noncomputable def ZuJ:S3:=Zo (aJ (cT (e2 bh (Zb 3) (eC (.int 10))) (e2 eX (Zx a_ (Za (Zb 2) (Zf))) (eC (.int 1)))) (aK (aZ bC dZ (eC (.str [32])) (Za (e2 Zk (e2 Zk (aW (Zb 2) (aV) (aN (Zb 5))) (bA (Za (eC (.str [])) (Zf)))) (aW (Zb 2) (aN (Zb 5)) (aV))) (Zf)))) (aU)) Zug
noncomputable def ZuN:S3:=Zo (aJ (e2 bh (Zb 3) (eC (.int 9))) (aK (e2 Zk (Zb 0) (eC (.str [32])))) (aU)) ZuJ
noncomputable def ZtC:S3:=Zo (aJ (e2 bh (Zb 3) (eC (.int 8))) (aK (e2 Zk (eC (.str [32])) (Zb 0))) (aU)) ZuN
noncomputable def sp9:S3:=Zo (aJ (cT (e2 jy (Zb 3) (n6 (Za (eC (.int 5)) (Za (eC (.int 6)) (Za (eC (.int 7)) (Zf)))))) (e2 eX (Zx a_ (Za (Zb 2) (Zf))) (eC (.int 1)))) (aK (aZ bC dZ (eC (.str [32])) (Za (e2 Zk (e2 Zk (aW (Zb 2) (aV) (aN (Zb 5))) (bA (Za (aR yJ (Za (e2 aM (Zb 2) (Zb 5)) (Za (e2 bD (Zb 4) (eC (.int 5))) (Zf)))) (Zf)))) (aW (Zb 2) (aN (e2 Zk (Zb 5) (eC (.int 1)))) (aV))) (Zf)))) (aU)) ZtC
noncomputable def sp8:S3:=Zo (aJ (cT (e2 bh (Zb 3) (eC (.int 4))) (cT (e2 eX (Zx a_ (Za (Zb 2) (Zf))) (eC (.int 1))) (e2 dg (e2 aM (Zb 2) (eC (.int 0))) (eC (.str [106,117,109,112]))))) (Zo (aD 6 (e2 pI (v5 (bK (eC (.str [112,117,116])) (eC (.int 1)) (bK (eC (.str [97,100,100])) (eC (.int 3)) (bK (eC (.str [115,117,98])) (eC (.int 3)) (bK (eC (.str [109,111,114,101])) (eC (.int 3)) (bK (eC (.str [103,101,116])) (eC (.int 2)) (bK (eC (.str [115,101,116])) (eC (.int 2)) (bK (eC (.str [119,104,101,110])) (eC (.int 1)) (bK (eC (.str [116,101,108,108])) (eC (.int 1)) (v4)))))))))) (e2 aM (Zb 2) (eC (.int 0))))) (Zo (aD 7 (e2 Zk (eC (.int 1)) (e2 aQ (e2 bD (Zb 4) (eC (.int 5))) (Zb 6)))) (Zo (aD 8 (e2 aQ (e2 bD (Zb 4) (eC (.int 15))) (e2 vW (eC (.int 10)) (eC (.int 50))))) (Zo (aD 9 (e2 aM (bA (Za (eC (.str [56])) (Za (eC (.str [45,49])) (Za (e2 cZ (eC (.str [57])) (eC (.int 60))) (Za (Zx dR (Za (e2 Zk (eC (.int 8)) (Zb 8)) (Zf))) (Za (Zx dR (Za (e2 dY (e1 pG (eC (.int 1))) (Zb 8)) (Zf))) (Zf))))))) (e2 aQ (Zb 4) (eC (.int 5))))) (aK (aZ bC dZ (eC (.str [32])) (Za (e2 Zk (e2 Zk (aW (Zb 2) (aV) (aN (Zb 7))) (bA (Za (Zb 9) (Zf)))) (aW (Zb 2) (aN (e2 Zk (Zb 7) (eC (.int 1)))) (aV))) (Zf)))))))) (aU)) sp9
noncomputable def sp7:S3:=Zo (aJ (e2 bh (Zb 3) (eC (.int 3))) (aK (aZ bC dZ (eC (.str [32])) (Za (e2 Zk (bA (Za (e2 Zk (aZ bC sH (aW (e2 aM (Zb 2) (eC (.int 0))) (aV) (aN (eC (.int 1)))) (Zf)) (aW (e2 aM (Zb 2) (eC (.int 0))) (aN (eC (.int 1))) (aV))) (Zf))) (aW (Zb 2) (aN (eC (.int 1))) (aV))) (Zf)))) (aU)) sp8
noncomputable def sp6:S3:=Zo (aJ (e2 bh (Zb 3) (eC (.int 2))) (aK (aZ bC dZ (eC (.str [32])) (Za (e2 Zk (bA (Za (aR Bq (Za (e2 aM (Zb 2) (eC (.int 0))) (Za (Zb 4) (Zf)))) (Zf))) (aW (Zb 2) (aN (eC (.int 1))) (aV))) (Zf)))) (aU)) sp7
noncomputable def sp5:S3:=Zo (aJ (e2 bh (Zb 3) (eC (.int 1))) (aK (aZ bC dZ (eC (.str [32])) (Za (aW (Zb 2) (aV) (aN (Zx qH (Za (e2 dY (e2 dY (Zx a_ (Za (Zb 2) (Zf))) (eC (.int 1))) (e2 aQ (Zb 4) (eC (.int 3)))) (Za (Zx lW (Za (e2 eX (Zx a_ (Za (Zb 2) (Zf))) (eC (.int 1))) (Zf))) (Zf)))))) (Zf)))) (aU)) sp6
noncomputable def sp4:S3:=Zo (aJ (e2 bh (Zb 3) (eC (.int 0))) (aK (e2 Zk (Zb 0) (e2 aM (bA (Za (eC (.str [32,48])) (Za (eC (.str [32,55])) (Za (eC (.str [32,49,32,50])) (Za (eC (.str [32,59,32,116,104,101,32,101,110,100])) (Za (eC (.str [32,35])) (Za (eC (.str [32,104,97,108,116])) (Za (eC (.str [32,45,49,32,53,32,54])) (Zf))))))))) (e2 aQ (Zb 4) (eC (.int 7)))))) (aU)) sp5
structure Sp(M:Store)(nm:List Nat)(is:List Int)(ks:List (List Nat))(k au:Nat)(S:Store):Prop where
 F:dW nm is ks
 pS:M<+:S
 gS:S[M.length]?=Ya (.lst ((nm::is.map Zd).map D.str))
 la:1<=au/\(1<=is.length->au<=is.length)
noncomputable abbrev cj(M:Store)(nm:List Nat)(is:List Int)(c:Int)(k au:Nat)(r:Int):Zu:=[Ya (.str (fK nm is)),Ya (.int c),Ya (.ref M.length),Ya (.int (k:Int)),Ya (.int r),Ya (.int (au:Int)),Ye,Ye,Ye,Ye]
def cO(M:Store)(u:S3)(env:Zu)(S:Store):Prop:=∃t,jo t/\BV M u env S (.str t)
theorem cO.skip{c:E3}(hc:c env S= .ok (.bl false) S)(hv:cO M v env S):cO M (Zo (aJ c u aU) v) env S:=let⟨t,h,q⟩:=hv;⟨t,h,BV.skip hc q⟩
theorem cO.take{c:E3}{w:S3}(hc:c env S= .ok (.bl true) S)(hv:cO M u env S):cO M (Zo (aJ c u w) v) env S:=let⟨t,h,q⟩:=hv;⟨t,h,BV.take hc q⟩
section
variable {M S:Store} {nm:List Nat} {is:List Int} {ks:List (List Nat)} {k au:Nat} {c r:Int}
theorem kq(j:Int):(e2 bh (Zb 3) (eC (.int j))) (cj M nm is c k au r) S= .ok (.bl (decide ((k:Int)=j))) S:=Zg rfl rfl (by simp only[bh,jY,jZ,j4,j5,j6])
theorem ln2(P:Sp M nm is ks k au S){x y z w:Option D}:(Zx a_ (Za (Zb 2) (Zf))) [Ya (.str (fK nm is)),Ya (.int c),Ya (.ref M.length),Ya (.int (k:Int)),Ya (.int r),Ya (.int (au:Int)),x,y,z,w] S= .ok (.int ((is.length+1:Nat):Int)) S:=dh rfl ((ux P.gS).trans (by rw[Yg,Yo,Yg]))
theorem Gm(P:Sp M nm is ks k au S):(e2 eX (Zx a_ (Za (Zb 2) (Zf))) (eC (.int 1))) (cj M nm is c k au r) S= .ok (.bl (decide (1<=is.length))) S:=Zg (ln2 P) rfl ((vX _ _).trans (by
 by_cases h:1<=is.length
 .rw[decide_eq_true h,decide_eq_true (by omega)]
 .rw[decide_eq_false h,decide_eq_false (by omega)]))
theorem spl(t:List Nat)(B:jo t)(h:f env S= .ok (.str t) M')(p:M<+:M'):cO M (aK f) env S:=⟨t,B,BV.ret h p⟩
theorem SJ:jo []:=oN (ws:=[[]]) (λw hw=>by rw[nJ.mp hw];exact iY rfl (by decide)) (λz=>nomatch z) (by decide) (.head rfl)
theorem Zu3:jo [32]:=oN (ws:=[[],[]]) (λw hw=>by simp at hw;rw[hw];exact iY rfl (by decide)) (λz=>nomatch z) (by decide) (.head rfl)
theorem ZuC:jo [32,32]:=oN (ws:=[[],[],[]]) (λw hw=>by simp at hw;rw[hw];exact iY rfl (by decide)) (λz=>nomatch z) (by decide) (.head rfl)
theorem ZtQ(P:Sp M nm is ks k au S):cO M Zug (cj M nm is c k au r) S:=by obtain⟨j,hj,lj⟩:=gw r 4 (by decide);have hj':r % 4=(j:Int):=hj;have aX:∀d∈[D.str [],.str [],.str [32],.str [32,32]],∃b,d= .str b/\jo b:=cD ⟨_,rfl,SJ⟩ (cD ⟨_,rfl,SJ⟩ (cD ⟨_,rfl,Zu3⟩ (cD ⟨_,rfl,ZuC⟩ Gg)));obtain⟨d,gd,b,rfl,hb⟩:=Gf aX (j:=j) lj;exact spl b hb (Zg (wJ rfl rfl) (Zg rfl rfl ((cY (by decide)).trans (by rw[hj']))) (ji (dN ..) gd)) (P.pS.trans (iI _ _))
theorem Cq{S:Store}(h:LE f env S (ws.map D.str))(hw:∀w∈ws,e_ w)(hf:ws.length<=20):∃S',(aZ bC dZ (eC (.str [32])) (Za f (Zf))) env S= .ok (.str (glue [32] ws)) S'/\S<+:S':=by obtain⟨n,S',h1,p,g⟩:=h;have l:=(Cj 32 200 ws λt ht=>(hw t ht).2.2).1;have:ws.length*(200+1)<=20*201:=Ia hf (Yt _);exact⟨S',oG rfl h1 (R_ g (by simp only[SZ];omega)),p⟩
theorem uV{S:Store}{lo hi:rO}(h:f env S= .ok (.ref n) S)(g:S[n]?=Ya (.lst (ws.map D.str)))(h1:lo env S= .ok a S)(h2:hi env S= .ok b S):LE (aW f lo hi) env S ((cutD ws a b).map D.str):=by have s:=ZnS h g h1 h2;rw[ZjR]at s;exact⟨_,_,s,iI _ _,dN _ _ _⟩
theorem ZuK(P:Sp M nm is ks k au S):cO M ZuJ (cj M nm is c k au r) S:=by
 by_cases h:k=10/\1<=is.length
 .have c1:=Gm (c:=c) (r:=r) P;rw[decide_eq_true h.2]at c1;have c0:=kq (M:=M) (S:=S) (nm:=nm) (is:=is) (c:=c) (k:=k) (au:=au) (r:=r) 10;rw[decide_eq_true (by omega)]at c0;refine cO.take ((jj c0).trans c1) ?_;have eA:=uV (f:=Zb 2) (lo:=aV) (hi:=aN (Zb 5)) (env:=cj M nm is c k au r) rfl P.gS rfl rfl;rw[yO]at eA;have eB:∀S',S<+:S'->LE (bA (Za (eC (.str [])) (Zf))) (cj M nm is c k au r) S' ([[]].map D.str):=λS' _=>LF.le (LF.lst rfl rfl);have eC:∀S',S<+:S'->LE (aW (Zb 2) (aN (Zb 5)) (aV)) (cj M nm is c k au r) S' (((nm::is.map Zd).drop au).map D.str):=λS' p=>by
   have q:=uV (f:=Zb 2) (lo:=aN (Zb 5)) (hi:=aV) (env:=cj M nm is c k au r) rfl (jB p P.gS) rfl rfl;rw[oF]at q;exact q
  have f3:=P.F.few.1;have la:=P.la.2 h.2;have s1:=LE.add (LF.le (LE.add eA eB (by simp only[Yg,Y7,Yo,ju];omega))) eC (by simp only[Yi,Yg,Y7,nO,Yo,ju];omega);have e:((nm::is.map Zd).take au).map D.str++[[]].map D.str++((nm::is.map Zd).drop au).map D.str=((nm::is.map Zd).take au++[[]]++(nm::is.map Zd).drop au).map D.str:=by simp only[nP]
  rw[e]at s1;have W:∀w∈(nm::is.map Zd).take au++[[]]++(nm::is.map Zd).drop au,e_ w:=λw hw=>by
   rcases gk.mp hw with hw|hw
   .rcases gk.mp hw with hw|hw
    .exact uU P.F w (zu hw)
    .rw[nJ.mp hw];exact iY rfl (by decide)
   .exact uU P.F w (Hy hw)
  obtain⟨a,ea⟩:∃a,au=a+1:=⟨au-1,by have:=P.la.1;omega⟩;have ln:((nm::is.map Zd).take au++[[]]++(nm::is.map Zd).drop au).length=is.length+2:=by simp only[Yi,Y7,nO,Yo,ju,Yg];omega
  obtain⟨S',h1,p1⟩:=Cq (LF.le s1) W (by omega);refine spl _ (oN W (λz=>by rw[z]at ln;simp at ln) (by omega) ?_) h1 (P.pS.trans p1);rw[ea,zx,o6,o6];refine .num P.F.tab ?_;rw[ea,zx,o6,o6,Yo]at ln;have:=P.F.len;omega
 .refine cO.skip ?_ (ZtQ P);have c0:=kq (M:=M) (S:=S) (nm:=nm) (is:=is) (c:=c) (k:=k) (au:=au) (r:=r) 10;by_cases h1:k=10
  .rw[decide_eq_true (by omega)]at c0;have c1:=Gm (c:=c) (r:=r) P;rw[decide_eq_false (λz=>h ⟨h1,z⟩)]at c1;exact(jj c0).trans c1
  .rw[decide_eq_false (by omega)]at c0;exact mX c0
theorem ZtG(P:Sp M nm is ks k au S):cO M ZuN (cj M nm is c k au r) S:=by
 have c0:=kq (M:=M) (S:=S) (nm:=nm) (is:=is) (c:=c) (k:=k) (au:=au) (r:=r) 9;have hl:=(sS P.F.few.1 P.F.few.2 P.F.num).2;by_cases h:(k:Int)=9
 .rw[decide_eq_true h]at c0;refine cO.take c0 (spl (glue [32] ((nm::is.map Zd)++[[]])) (oN (λw hw=>?_) (by simp) (by have:=P.F.few.1;simp;omega) ?_) ((Zg rfl rfl (iG (by simp only[Yk];omega))).trans ?_) P.pS)
  .rcases gk.mp hw with hw|hw
   .exact uU P.F w hw
   .rw[nJ.mp hw];exact iY rfl (by decide)
  .refine .num P.F.tab ?_;have:=P.F.len;simp;omega
  .rw[K1 (nm::is.map Zd) [[]] (λz=>nomatch z) (λz=>nomatch z)];rfl
 .rw[decide_eq_false h]at c0;exact cO.skip c0 (ZuK P)
theorem Zq2(P:Sp M nm is ks k au S):cO M ZtC (cj M nm is c k au r) S:=by
 have c0:=kq (M:=M) (S:=S) (nm:=nm) (is:=is) (c:=c) (k:=k) (au:=au) (r:=r) 8;have hl:=(sS P.F.few.1 P.F.few.2 P.F.num).2;by_cases h:(k:Int)=8
 .rw[decide_eq_true h]at c0;refine cO.take c0 (spl (glue [32] ([]::nm::is.map Zd)) (oN (λw hw=>?_) (λz=>nomatch z) (by have:=P.F.few.1;simp only[Yo,Yg];omega) (.head rfl)) ((Zg rfl rfl (iG (a:=[32]) (b:=fK nm is) (by simp only[Yk];omega))).trans rfl) P.pS);rcases Y1.mp hw with rfl|hw
  .exact iY rfl (by decide)
  .exact uU P.F w hw
 .rw[decide_eq_false h]at c0;exact cO.skip c0 (ZtG P)
theorem ZnW{a:Nat}{b:List Nat}(F:dW nm is ks)(ha:a<is.length)(hb:∀k,Ge k b\/(ks[a]?=Ya k->Ge k b)):yP (nm::((is.take a).map Zd++b::(is.drop (a+1)).map Zd)):=by
 have la:a<ks.length:=by rw[F.len];exact ha
 have hk:ks[a]?=Ya ks[a]:=Y2 la;obtain⟨pre,hp⟩:∃pre,pre=(ks.take a).zip ((is.take a).map Zd):=⟨_,rfl⟩;have l1:(ks.take a).length=((is.take a).map Zd).length:=by rw[Y7,Yg,Y7];omega
 have e1:pre.map (·.1)=ks.take a:=by rw[hp];exact List.map_fst_zip (kZ l1)
 have e2:pre.map (·.2)=(is.take a).map Zd:=by rw[hp];exact List.map_snd_zip (kZ l1.symm)
 rw[←e2];refine yP.word (k:=ks[a]) (p_:=ks.drop (a+1)) pre ?_ ?_ (λp h=>?_) ?_ ?_
 .rw[e1,F.tab];refine congrArg Ya ?_;rw[←xF la,Vu]
 .rw[nO,Yg,nO,F.len]
 .rw[hp]at h;obtain⟨j,hj⟩:=zr h;rw[Vn]at hj;obtain⟨j1,j2⟩:=hj;rw[gO]at j2;cases q:(is.take a)[j]? with
  |none=>rw[q]at j2;cases j2|some i=>
   rw[q]at j2;have e:p.2=Zd i:=(eE j2).symm;have hj1:j<a:=by have:=p6 q;rw[Y7]at this;omega
   rw[xG hj1]at q j1;exact⟨i,e,F.num i (q8 q),λz=>F.box j i (by rw[j1,z]) q⟩
 .rcases hb ks[a]with h|h
  .exact h
  .exact h hk
 .rw[hp,List.length_zip,Y7,Yg,Y7];have:=F.few.1;omega
theorem SM(P:Sp M nm is ks k au S):cO M sp9 (cj M nm is c k au r) S:=by
 have c0:(e2 jy (Zb 3) (n6 (Za (eC (.int 5)) (Za (eC (.int 6)) (Za (eC (.int 7)) (Zf)))))) (cj M nm is c k au r) S= .ok (.bl (decide (k=5\/k=6\/k=7))) S:=by
  refine Zg rfl (QD rfl rfl) ?_;simp only[jy,Qt];by_cases h5:k=5
  .subst h5;rfl
  .by_cases h6:k=6
   .subst h6;rfl
   .by_cases h7:k=7
    .subst h7;rfl
    .have a5:¬(5:Int)=k:=by omega
     have a6:¬(6:Int)=k:=by omega
     have a7:¬(7:Int)=k:=by omega
     rw[decide_eq_false (by omega)];simp[ZtT,eY,a5,a6,a7]
 have c1:=Gm (c:=c) (r:=r) P;by_cases h:k=5\/k=6\/k=7
 .rw [decide_eq_true h]at c0;by_cases hl:1<=is.length
  .rw [decide_eq_true hl]at c1;refine cO.take ((jj c0).trans c1) ?_;have la:=P.la.2 hl;obtain⟨a,ea⟩:∃a,au=a+1:=⟨au-1,by have:=P.la.1;omega⟩;have lt:a<is.length:=by omega
   have hi:is[a].natAbs<10^60:=P.F.num _ (o5 lt);have f3:=P.F.few.1;have eA:=uV (f:=Zb 2) (lo:=aV) (hi:=aN (Zb 5)) (env:=cj M nm is c k au r) rfl P.gS rfl rfl;rw[yO]at eA;obtain⟨nA,SA,hA,pA,gA⟩:=eA;obtain⟨b,hb,fb⟩:=Zmp hi (r / 5) SA;have wi:(e2 aM (Zb 2) (Zb 5)) (cj M nm is c k au r) SA= .ok (.str (Zd is[a])) SA:=Zg rfl rfl (ji (jB pA P.gS) (by rw[iw,ea,gO,qj,gO,Y2 lt];rfl));obtain⟨nB,SB,hB,pB,gB⟩:LE (bA (Za (aR yJ (Za (e2 aM (Zb 2) (Zb 5)) (Za (e2 bD (Zb 4) (eC (.int 5))) (Zf)))) (Zf))) (cj M nm is c k au r) SA ([b].map D.str):=LF.le (LF.lst (Zn (j9 wi (Zg rfl rfl (iW (by decide))) fb) rfl) rfl);have ab:=Zn1 (jB pB gA) gB (by simp only[Yg,Y7,Yo,ju];omega);have sAB:LE (e2 Zk (aW (Zb 2) (aV) (aN (Zb 5))) (bA (Za (aR yJ (Za (e2 aM (Zb 2) (Zb 5)) (Za (e2 bD (Zb 4) (eC (.int 5))) (Zf)))) (Zf)))) (cj M nm is c k au r) S (((nm::is.map Zd).take au).map D.str++[b].map D.str):=⟨_,_,Zg hA hB ab,pA.trans (pB.trans (iI _ _)),dN _ _ _⟩;have eC:∀S',S<+:S'->LE (aW (Zb 2) (aN (e2 Zk (Zb 5) (eC (.int 1)))) (aV)) (cj M nm is c k au r) S' (((nm::is.map Zd).drop (au+1)).map D.str):=λS' p=>by have q:=uV (f:=Zb 2) (lo:=aN (e2 Zk (Zb 5) (eC (.int 1)))) (hi:=aV) (a:=Ya ((au+1:Nat):Int)) (env:=cj M nm is c k au r) rfl (jB p P.gS) rfl rfl;rw[oF]at q;exact q
   have s1:=LE.add sAB eC (by simp only[Yi,Yg,Y7,nO,Yo,ju];omega);have e:((nm::is.map Zd).take au).map D.str++[b].map D.str++((nm::is.map Zd).drop (au+1)).map D.str=(nm::((is.take a).map Zd++b::(is.drop (a+1)).map Zd)).map D.str:=by rw[ea,zx,Vx,←NP,←V4];simp only[nP,Yy,qp,o6,jC,tU]
   rw [e]at s1;have W:∀w∈nm::((is.take a).map Zd++b::(is.drop (a+1)).map Zd),e_ w:=λw hw=>by
    rcases Y1.mp hw with rfl|hw
    .exact Sw P.F
    .rcases gk.mp hw with hw|hw
     .obtain⟨i,hi,rfl⟩:=jD.mp hw;exact yS (P.F.num i (zu hi))
     .rcases Y1.mp hw with rfl|hw
      .exact hb.2
      .obtain⟨i,hi,rfl⟩:=jD.mp hw;exact yS (P.F.num i (Hy hi))
   have ln:(nm::((is.take a).map Zd++b::(is.drop (a+1)).map Zd)).length<=20:=by simp only[Yo,Yi,Yg,Y7,nO];omega
   obtain⟨S',h1,p1⟩:=Cq (LF.le s1) W ln;exact spl _ (oN W (λz=>nomatch z) ln (ZnW P.F lt (λ_=>.inl ⟨Ym hb.2.2.2 (by decide),.inl hb.1⟩))) h1 (P.pS.trans p1)
  .rw[decide_eq_false hl]at c1;exact cO.skip ((jj c0).trans c1) (Zq2 P)
 .rw[decide_eq_false h]at c0;exact cO.skip (mX c0) (Zq2 P)
end
theorem Zq6:∀n:Nat,cG (10^(n+1)-1)=Yj (n+1) 57
 |0=>sJ (by decide)|n+1=>by
  have p:10^(n+2)=10*10^(n+1):=by rw[Nat.pow_succ,Nat.mul_comm]
  have q:1<=10^(n+1):=Nat.pow_pos (by decide);rw[Cg (by rw[p];omega),show(10^(n+2)-1) / 10=10^(n+1)-1 by rw[p];omega,show(10^(n+2)-1) % 10=9 by rw[p];omega,Zq6 n];exact List.replicate_succ'.symm
noncomputable abbrev D8:List (dJ×D):=dictOf [(Sum.inr [112,117,116],.int 1),(Sum.inr [97,100,100],.int 3),(Sum.inr [115,117,98],.int 3),(Sum.inr [109,111,114,101],.int 3),(Sum.inr [103,101,116],.int 2),(Sum.inr [115,101,116],.int 2),(Sum.inr [119,104,101,110],.int 1),(Sum.inr [116,101,108,108],.int 1)]
def Zws(w:List Nat):Prop:=∃i:Int,w=Zd i/\i.natAbs<10^60/\¬(0<=i/\i<8)
section
variable {M S:Store} {nm:List Nat} {is:List Int} {ks:List (List Nat)} {k au:Nat} {c r:Int}
theorem Zne(F:dW nm is ks)(h1:1<=is.length)(hj:nm≠oH):∃mb:Nat,1<=mb/\mb<=is.length/\rN D8 (Sum.inr nm)=Ya (.int (mb:Int))/\∀j,j<mb->ks[j]?=Ya bx:=by
 have tb:=Gi F.tab;have hl:=F.len;simp only[di,Y1,Prod.mk.injEq,vz,or_false]at tb;have b1:∀{ks:List (List Nat)},∀j,j<1->(bx::ks)[j]?=Ya bx:=λj h=>by
  obtain rfl:j=0:=by omega
  rfl
 have b2:∀{ks:List (List Nat)},∀j,j<2->(bx::bx::ks)[j]?=Ya bx:=λj h=>by
  have:j=0\/j=1:=by omega
  rcases this with rfl|rfl <;>rfl
 have b3:∀{ks:List (List Nat)},∀j,j<3->(bx::bx::bx::ks)[j]?=Ya bx:=λj h=>by
  have:j=0\/j=1\/j=2:=by omega
  rcases this with rfl|rfl|rfl <;>rfl
 rcases tb with⟨rfl,rfl⟩|⟨rfl,rfl⟩|⟨rfl,rfl⟩|⟨rfl,rfl⟩|⟨rfl,rfl⟩|⟨rfl,rfl⟩|⟨rfl,rfl⟩|⟨rfl,rfl⟩|⟨rfl,rfl⟩|⟨rfl,rfl⟩
 .exact⟨1,by decide,h1,rfl,b1⟩
 .exact⟨3,by decide,kZ hl,rfl,b3⟩
 .exact⟨3,by decide,kZ hl,rfl,b3⟩
 .exact⟨3,by decide,kZ hl,rfl,b3⟩
 .exact⟨2,by decide,kZ hl,rfl,b2⟩
 .exact⟨2,by decide,kZ hl,rfl,b2⟩
 .exact absurd rfl hj
 .exact⟨1,by decide,h1,rfl,b1⟩
 .exact⟨1,by decide,h1,rfl,b1⟩
 .exact absurd h1 (by rw[←hl];decide)
theorem Zwf(P:Sp M nm is ks k au S):cO M sp8 (cj M nm is c k au r) S:=by
 have c0:=kq (M:=M) (S:=S) (nm:=nm) (is:=is) (c:=c) (k:=k) (au:=au) (r:=r) 4;have c1:=Gm (c:=c) (r:=r) P;have i0:∀{x y z w:Option D} {S':Store},S<+:S'->(e2 aM (Zb 2) (eC (.int 0))) [Ya (.str (fK nm is)),Ya (.int c),Ya (.ref M.length),Ya (.int (k:Int)),Ya (.int r),Ya (.int (au:Int)),x,y,z,w] S'= .ok (.str nm) S':=λp=>Zg rfl rfl (ji (jB p P.gS) (iw _ 0));have c2:(e2 dg (e2 aM (Zb 2) (eC (.int 0))) (eC (.str [106,117,109,112]))) (cj M nm is c k au r) S= .ok (.bl (!decide (nm=oH))) S:=Zg (i0 (vA _)) rfl (by simp only[dg,jY,jZ,j4,j5,j6]);by_cases h4:(k:Int)=4
 .rw [decide_eq_true h4]at c0;by_cases hl:1<=is.length
  .rw [decide_eq_true hl]at c1;by_cases hj:nm=oH
   .rw[decide_eq_true hj]at c2;exact cO.skip ((jj c0).trans ((jj c1).trans c2)) (SM P)
   .rw [decide_eq_false hj]at c2;refine cO.take ((jj c0).trans ((jj c1).trans c2)) ?_;obtain⟨mb,m1,m2,m3,m4⟩:=Zne P.F hl hj;obtain⟨a,ha,la⟩:=gw (r / 5) mb m1;have lt:a<is.length:=by omega
    obtain⟨mo,hmo⟩:∃mo,r / 15 % 10^50=mo:=⟨_,rfl⟩;have o1:0<=mo:=by rw[←hmo];exact Ik _ (by decide)
    have o2:mo<10^50:=by rw[←hmo];exact Ij _ (by decide)
    obtain⟨j,hjj,lj⟩:=gw r 5 (by decide);have hj':r % 5=(j:Int):=hjj;obtain⟨X,hX⟩:∃X:List D,X=[.str [56],.str [45,49],.str (Yj 60 [57]).flatten,.str (Zd (8+mo)),.str (Zd (-1-mo))]:=⟨_,rfl⟩;have aX:∀d∈X,∃b,d= .str b/\Zws b:=by
     rw[hX];refine cD ⟨_,rfl,8,((FW 8).trans (sJ (by decide))).symm,by decide +kernel,by decide⟩ (cD ⟨_,rfl,-1,((Kz 0).trans (by rw[sJ (by decide)])).symm,by decide +kernel,by decide⟩ (cD ⟨_,rfl,((10^60-1:Nat):Int),?_,?_,?_⟩ (cD ⟨_,rfl,8+mo,rfl,by omega,by omega⟩ (cD ⟨_,rfl,-1-mo,rfl,by omega,by omega⟩ Gg))))
     .rw[FW,Zq6 59];rfl
     .rw[xM];decide +kernel
     .exactλz=>absurd z.2 (by decide +kernel)
    obtain⟨d,gd,b,rfl,fi,rfl,hi,nb⟩:=Gf aX (j:=j) (by rw[hX];exact lj);have n1:(8+mo).natAbs<10^60:=by omega
    have n2:(-1-mo).natAbs<10^60:=by omega
    have d1:=Zni (M:=S) (env:=cj M nm is c k au r) (r:=(bK (eC (.str [112,117,116])) (eC (.int 1)) (bK (eC (.str [97,100,100])) (eC (.int 3)) (bK (eC (.str [115,117,98])) (eC (.int 3)) (bK (eC (.str [109,111,114,101])) (eC (.int 3)) (bK (eC (.str [103,101,116])) (eC (.int 2)) (bK (eC (.str [115,101,116])) (eC (.int 2)) (bK (eC (.str [119,104,101,110])) (eC (.int 1)) (bK (eC (.str [116,101,108,108])) (eC (.int 1)) (v4)))))))))) rfl rfl;have p1:S<+:S++[MO.dct D8]:=iI _ _;have s6:(e2 pI (v5 (bK (eC (.str [112,117,116])) (eC (.int 1)) (bK (eC (.str [97,100,100])) (eC (.int 3)) (bK (eC (.str [115,117,98])) (eC (.int 3)) (bK (eC (.str [109,111,114,101])) (eC (.int 3)) (bK (eC (.str [103,101,116])) (eC (.int 2)) (bK (eC (.str [115,101,116])) (eC (.int 2)) (bK (eC (.str [119,104,101,110])) (eC (.int 1)) (bK (eC (.str [116,101,108,108])) (eC (.int 1)) (v4)))))))))) (e2 aM (Zb 2) (eC (.int 0)))) (cj M nm is c k au r) S= .ok (.int (mb:Int)) (S++[.dct D8]):=Zg d1 (i0 p1) (by rw[Qu,dN];show(match rN D8 (Sum.inr nm)with|some d=>R3.ok d _|none=>.bad)=_;rw[m3]);obtain⟨S1,hS1⟩:∃S1,S1=S++[MO.dct D8]:=⟨_,rfl⟩;rw[←hS1]at s6 p1;have m9:∀{S:Store},cZ (.str [57]) (.int 60) S= .ok (.str (Yj 60 [57]).flatten) S:=by intro S;rw[JG];exact if_pos (by decide)
    obtain⟨E,hE⟩:∃E:Zu,E=[Ya (.str (fK nm is)),Ya (.int c),Ya (.ref M.length),Ya (.int (k:Int)),Ya (.int r),Ya (.int (au:Int)),Ya (.int (mb:Int)),Ya (.int ((a+1:Nat):Int)),Ya (.int mo),Ya (.str (Zd fi))]:=⟨_,rfl⟩;have s9:=Zg (wJ (env:=[Ya (.str (fK nm is)),Ya (.int c),Ya (.ref M.length),Ya (.int (k:Int)),Ya (.int r),Ya (.int (au:Int)),Ya (.int (mb:Int)),Ya (.int ((a+1:Nat):Int)),Ya (.int mo),Ye]) (M:=S1) (g:=(Za (eC (.str [56])) (Za (eC (.str [45,49])) (Za (e2 cZ (eC (.str [57])) (eC (.int 60))) (Za (Zx dR (Za (e2 Zk (eC (.int 8)) (Zb 8)) (Zf))) (Za (Zx dR (Za (e2 dY (e1 pG (eC (.int 1))) (Zb 8)) (Zf))) (Zf))))))) (ds:=X) (by rw[hX];exact Zn rfl (Zn rfl (Zn (Zg rfl rfl m9) (Zn (dh (Zg rfl rfl rfl) (yR n1)) (Zn (dh (Zg rfl rfl rfl) (yR n2)) rfl))))) (by rw[hX];rfl)) (Zg (op:=aQ) (f:=Zb 4) (g:=eC (.int 5)) rfl rfl ((cY (by decide)).trans (by rw[hj']))) (ji (dN ..) gd);obtain⟨S2,hS2⟩:∃S2,S2=S1++[MO.lst X]:=⟨_,rfl⟩;rw[←hS2]at s9;have P2:S<+:S2:=by rw[hS2];exact p1.trans (iI _ _)
    have g2:=jB P2 P.gS;have f3:=P.F.few.1;have eA:LE (aW (Zb 2) (aV) (aN (Zb 7))) E S2 (((nm::is.map Zd).take (a+1)).map D.str):=by have q:=uV (f:=Zb 2) (lo:=aV) (hi:=aN (Zb 7)) (b:=Ya ((a+1:Nat):Int)) (env:=E) (by rw[hE];rfl) g2 rfl (by rw[hE];rfl);rw[yO]at q;exact q
    have eB:∀S',S2<+:S'->LE (bA (Za (Zb 9) (Zf))) E S' ([Zd fi].map D.str):=λS' _=>LF.le (LF.lst (by rw[hE];rfl) rfl);have eC:∀S',S2<+:S'->LE (aW (Zb 2) (aN (e2 Zk (Zb 7) (eC (.int 1)))) (aV)) E S' (((nm::is.map Zd).drop (a+1+1)).map D.str):=λS' p=>by have q:=uV (f:=Zb 2) (lo:=aN (e2 Zk (Zb 7) (eC (.int 1)))) (hi:=aV) (a:=Ya ((a+1+1:Nat):Int)) (env:=E) (by rw[hE];rfl) (jB p g2) (by rw[hE];rfl) rfl;rw[oF]at q;exact q
    have s1:=LE.add (LF.le (LE.add eA eB (by simp only[Yg,Y7,Yo,ju];omega))) eC (by simp only[Yi,Yg,Y7,nO,Yo,ju];omega);have e:((nm::is.map Zd).take (a+1)).map D.str++[Zd fi].map D.str++((nm::is.map Zd).drop (a+1+1)).map D.str=(nm::((is.take a).map Zd++Zd fi::(is.drop (a+1)).map Zd)).map D.str:=by rw[zx,Vx,←NP,←V4];simp only[nP,Yy,qp,o6,jC,tU]
    rw [e]at s1;have W:∀w∈nm::((is.take a).map Zd++Zd fi::(is.drop (a+1)).map Zd),e_ w:=λw hw=>by
     rcases Y1.mp hw with rfl|hw
     .exact Sw P.F
     .rcases gk.mp hw with hw|hw
      .obtain⟨i,hi,rfl⟩:=jD.mp hw;exact yS (P.F.num i (zu hi))
      .rcases Y1.mp hw with rfl|hw
       .exact yS hi
       .obtain⟨i,hi,rfl⟩:=jD.mp hw;exact yS (P.F.num i (Hy hi))
    have ln:(nm::((is.take a).map Zd++Zd fi::(is.drop (a+1)).map Zd)).length<=20:=by simp only[Yo,Yi,Yg,Y7,nO];omega
    obtain⟨S',h1,p1'⟩:=Cq (LF.le s1) W ln;rw[hE]at h1;refine⟨_,oN W (λz=>nomatch z) ln (ZnW P.F lt λk=>.inr λhk=>?_),BV.dX s6 (BV.dX (e:=.int ((a+1:Nat):Int)) (S:=S1) (Zg rfl (Zg (Zg rfl rfl (iW (by decide))) rfl ((cY (by omega)).trans (by rw[ha]))) (by rw[zF,Int.add_comm];rfl)) (BV.dX (e:=.int mo) (S:=S1) (Zg (Zg rfl rfl (iW (by decide))) (Zg rfl rfl (Sv 10 50 (by decide))) ((cY (by decide)).trans (by rw[hmo]))) (BV.dX s9 (BV.ret h1 (P.pS.trans (P2.trans p1'))))))⟩;rw[m4 a la]at hk;cases hk;exact⟨Ym (Ck hi) (by decide),.inr ⟨fi,rfl,hi,rfl,nb⟩⟩
  .rw[decide_eq_false hl]at c1;exact cO.skip ((jj c0).trans (mX c1)) (SM P)
 .rw[decide_eq_false h4]at c0;exact cO.skip (mX c0) (SM P)
theorem Zv8(P:Sp M nm is ks k au S)(hn:sG nm=true)(h1:1<=nm.length):cO M sp7 (cj M nm is c k au r) S:=by
 have c0:=kq (M:=M) (S:=S) (nm:=nm) (is:=is) (c:=c) (k:=k) (au:=au) (r:=r) 3;by_cases h:(k:Int)=3
 .rw [decide_eq_true h]at c0;refine cO.take c0 ?_;have f3:=P.F.few.1;have f4:=P.F.few.2;obtain⟨x,rest,rfl⟩:∃x rest,nm=x::rest:=by
   cases nm with
   |nil=>exact absurd h1 (by decide)|cons x rest=>exact⟨x,rest,rfl⟩
  have hx:=Yaj.mp (fB.mp hn x (Yu ..));have x1:=kY hx.1;have x2:=kY hx.2;have i0:(e2 aM (Zb 2) (eC (.int 0))) (cj M (x::rest) is c k au r) S= .ok (.str (x::rest)) S:=Zg rfl rfl (ji P.gS (iw _ 0));have z4:(x::rest).length<=SZ:=Ym f4 (by decide);have t1:(aW (e2 aM (Zb 2) (eC (.int 0))) (aV) (aN (eC (.int 1)))) (cj M (x::rest) is c k au r) S= .ok (.str [x]) S:=by have q:cutD (x::rest) Ye (Ya 1)=[x]:=yO (x::rest) 1;simp only[aW,i0,R3.bind,aV,aN,eC,lM,lO,lQ,lR,if_pos z4,q]
  have t2:(aW (e2 aM (Zb 2) (eC (.int 0))) (aN (eC (.int 1))) (aV)) (cj M (x::rest) is c k au r) S= .ok (.str rest) S:=by have q:cutD (x::rest) (Ya 1) Ye=rest:=oF (x::rest) 1;simp only[aW,i0,R3.bind,aV,aN,eC,lM,lO,lQ,lR,if_pos z4,q]
  have u:(aZ bC sH (aW (e2 aM (Zb 2) (eC (.int 0))) (aV) (aN (eC (.int 1)))) (Zf)) (cj M (x::rest) is c k au r) S= .ok (.str [x-32]) S:=by simp only[aZ,t1,R3.bind,Qw,if_true,Zf,RZ];refine if_pos ⟨?_,kY rfl⟩;show((ir 97 x&&ir x 122)&&true)=true;rw[hx.1,hx.2];rfl
  obtain⟨nA,SA,hA,pA,gA⟩:LE (bA (Za (e2 Zk (aZ bC sH (aW (e2 aM (Zb 2) (eC (.int 0))) (aV) (aN (eC (.int 1)))) (Zf)) (aW (e2 aM (Zb 2) (eC (.int 0))) (aN (eC (.int 1))) (aV))) (Zf))) (cj M (x::rest) is c k au r) S ([[x-32]++rest].map D.str):=LF.le (LF.lst (Zn (Zg u t2 (iG (by rw[Yo]at f4;simp only[Yk];omega))) rfl) rfl);have eC:∀S',S<+:S'->LE (aW (Zb 2) (aN (eC (.int 1))) (aV)) (cj M (x::rest) is c k au r) S' ((is.map Zd).map D.str):=λS' p=>by have q:=uV (f:=Zb 2) (lo:=aN (eC (.int 1))) (hi:=aV) (a:=Ya ((1:Nat):Int)) (env:=cj M (x::rest) is c k au r) rfl (jB p P.gS) rfl rfl;rw[oF]at q;exact q
  have s1:=LE.add ⟨nA,SA,hA,pA,gA⟩ eC (by simp only[Yg,Yo,ju];omega);have W:∀w∈([x-32]++rest)::is.map Zd,e_ w:=λw hw=>by
   rcases Y1.mp hw with rfl|hw
   .have fr:∀y∈rest,y≠32/\y≠10:=λy hy=>by
     have:=P.F.abc y (Yv _ hy);omega
    refine⟨λz=>?_,λz=>?_,by rw[Yo]at f4;simp only[Yi,Yk];omega⟩
    .rcases gk.mp z with z|z
     .have:=nJ.mp z;omega
     .exact(fr _ z).1 rfl
    .rcases gk.mp z with z|z
     .have:=nJ.mp z;omega
     .exact(fr _ z).2 rfl
   .exact Sx P.F w hw
  have ln:(([x-32]++rest)::is.map Zd).length<=20:=by rw[Yo,Yg];omega
  obtain⟨S',h1,p1⟩:=Cq (ws:=([x-32]++rest)::is.map Zd) (LF.le s1) W ln;exact spl _ (oN W (λz=>nomatch z) ln (.head (Zpq (c:=x-32) (Yu ..) (by omega)))) h1 (P.pS.trans p1)
 .rw[decide_eq_false h]at c0;exact cO.skip c0 (Zwf P)
theorem Zwu(P:Sp M nm is ks k au S)(hn:sG nm=true)(h1:1<=nm.length):cO M sp6 (cj M nm is c k au r) S:=by
 have c0:=kq (M:=M) (S:=S) (nm:=nm) (is:=is) (c:=c) (k:=k) (au:=au) (r:=r) 2;by_cases h:(k:Int)=2
 .rw[decide_eq_true h]at c0;refine cO.take c0 ?_;have f3:=P.F.few.1;obtain⟨w,hw,ht,hf⟩:=Zpa hn h1 P.F.few.2 r S;have i0:(e2 aM (Zb 2) (eC (.int 0))) (cj M nm is c k au r) S= .ok (.str nm) S:=Zg rfl rfl (ji P.gS (iw _ 0));have eA:LE (bA (Za (aR Bq (Za (e2 aM (Zb 2) (eC (.int 0))) (Za (Zb 4) (Zf)))) (Zf))) (cj M nm is c k au r) S ([w].map D.str):=LF.le (LF.lst (Zn (j9 i0 rfl hf) rfl) rfl);have eC:∀S',S<+:S'->LE (aW (Zb 2) (aN (eC (.int 1))) (aV)) (cj M nm is c k au r) S' ((is.map Zd).map D.str):=λS' p=>by
   have q:=uV (f:=Zb 2) (lo:=aN (eC (.int 1))) (hi:=aV) (a:=Ya ((1:Nat):Int)) (env:=cj M nm is c k au r) rfl (jB p P.gS) rfl rfl;rw[oF]at q;exact q
  have s1:=LE.add eA eC (by simp only[Yg,Yo,ju];omega);have W:∀v∈w::is.map Zd,e_ v:=λv hv=>by
   rcases Y1.mp hv with rfl|hv
   .exact hw
   .exact Sx P.F v hv
  have ln:(w::is.map Zd).length<=20:=by rw[Yo,Yg];omega
  obtain⟨S',h1,p1⟩:=Cq (ws:=w::is.map Zd) (LF.le s1) W ln;exact spl _ (oN W (λz=>nomatch z) ln (.head ht)) h1 (P.pS.trans p1)
 .rw[decide_eq_false h]at c0;exact cO.skip c0 (Zv8 P hn h1)
theorem Zwd(P:Sp M nm is ks k au S)(hn:sG nm=true)(h1:1<=nm.length):cO M sp5 (cj M nm is c k au r) S:=by
 have c0:=kq (M:=M) (S:=S) (nm:=nm) (is:=is) (c:=c) (k:=k) (au:=au) (r:=r) 1;by_cases h:(k:Int)=1
 .rw[decide_eq_true h]at c0;refine cO.take c0 ?_;have f3:=P.F.few.1;obtain⟨j,hj,lj⟩:=gw r 3 (by decide);have hj':r % 3=(j:Int):=hj;obtain⟨q,hq⟩:∃q:Nat,q=max (is.length-j) (if 1<=is.length then 1 else 0):=⟨_,rfl⟩;have ql:q<=is.length/\(1<=is.length->1<=q)/\(is.length=0->q=0):=by
   rw[hq];by_cases h:1<=is.length
   .rw[if_pos h];omega
   .rw[if_neg h];omega
  have bI:(Zx lW (Za (e2 eX (Zx a_ (Za (Zb 2) (Zf))) (eC (.int 1))) (Zf))) (cj M nm is c k au r) S= .ok (.int ((if 1<=is.length then 1 else 0:Nat):Int)) S:=dh (Gm P) (by
   by_cases h:1<=is.length
   .rw[decide_eq_true h,if_pos h];rfl
   .rw[decide_eq_false h,if_neg h];rfl)
  have mx:(Zx qH (Za (e2 dY (e2 dY (Zx a_ (Za (Zb 2) (Zf))) (eC (.int 1))) (e2 aQ (Zb 4) (eC (.int 3)))) (Za (Zx lW (Za (e2 eX (Zx a_ (Za (Zb 2) (Zf))) (eC (.int 1))) (Zf))) (Zf)))) (cj M nm is c k au r) S= .ok (.int (q:Int)) S:=by
   have a:(e2 dY (e2 dY (Zx a_ (Za (Zb 2) (Zf))) (eC (.int 1))) (e2 aQ (Zb 4) (eC (.int 3)))) (cj M nm is c k au r) S= .ok (.int ((is.length:Int)-j)) S:=(Zg (Zg (ln2 P) rfl KY) (Zg rfl rfl ((cY (by decide)).trans (by rw[hj']))) KY).trans (by congr 2;omega);simp only[Zx,Zn a (Zn bI (g:=Zf) rfl),R3.bind,ZjM];congr 2;rw[hq];by_cases h:1<=is.length
   .rw[if_pos h];by_cases z:((1:Nat):Int)>(is.length:Int)-j
    .rw[if_pos z];omega
    .rw[if_neg z];omega
   .rw[if_neg h];by_cases z:((0:Nat):Int)>(is.length:Int)-j
    .rw[if_pos z];omega
    .rw[if_neg z];omega
  have eA:LE (aW (Zb 2) (aV) (aN (Zx qH (Za (e2 dY (e2 dY (Zx a_ (Za (Zb 2) (Zf))) (eC (.int 1))) (e2 aQ (Zb 4) (eC (.int 3)))) (Za (Zx lW (Za (e2 eX (Zx a_ (Za (Zb 2) (Zf))) (eC (.int 1))) (Zf))) (Zf)))))) (cj M nm is c k au r) S (((nm::is.map Zd).take q).map D.str):=by have s:=uV (f:=Zb 2) (lo:=aV) (hi:=(aN (Zx qH (Za (e2 dY (e2 dY (Zx a_ (Za (Zb 2) (Zf))) (eC (.int 1))) (e2 aQ (Zb 4) (eC (.int 3)))) (Za (Zx lW (Za (e2 eX (Zx a_ (Za (Zb 2) (Zf))) (eC (.int 1))) (Zf))) (Zf)))))) (b:=Ya (q:Int)) (env:=cj M nm is c k au r) rfl P.gS rfl (by simp only[aN,mx,R3.bind]);rw[yO]at s;exact s
  have W:∀w∈(nm::is.map Zd).take q,e_ w:=λw hw=>uU P.F w (zu hw);have ln:((nm::is.map Zd).take q).length<=20:=by rw[Y7,Yo,Yg];omega
  obtain⟨S',h1,p1⟩:=Cq eA W ln;cases q with
  |zero=>exact spl _ SJ h1 (P.pS.trans p1)|succ q=>refine spl _ (oN W (by rw[zx];exactλz=>nomatch z) ln ?_) h1 (P.pS.trans p1);rw[zx];refine .num P.F.tab ?_;have:=P.F.len;rw[Y7,Yg];omega
 .rw[decide_eq_false h]at c0;exact cO.skip c0 (Zwu P hn h1)
theorem ZvU(P:Sp M nm is ks k au S)(hn:sG nm=true)(h1:1<=nm.length):cO M sp4 (cj M nm is c k au r) S:=by
 have c0:=kq (M:=M) (S:=S) (nm:=nm) (is:=is) (c:=c) (k:=k) (au:=au) (r:=r) 0;have hl:=(sS P.F.few.1 P.F.few.2 P.F.num).2;by_cases h:(k:Int)=0
 .rw[decide_eq_true h]at c0;refine cO.take c0 ?_;have f3:=P.F.few.1;obtain⟨j,hj,lj⟩:=gw r 7 (by decide);have hj':r % 7=(j:Int):=hj;have aX:∀d∈[D.str [32,48],.str [32,55],.str [32,49,32,50],.str [32,59,32,116,104,101,32,101,110,100],.str [32,35],.str [32,104,97,108,116],.str [32,45,49,32,53,32,54]],∃b ws,d= .str b/\b=[32]++glue [32] ws/\ws≠[]/\ws.length<=3/\∀w∈ws,e_ w:=by
   have k1:∀{ws:List (List Nat)},(ws.all λw=>(w.all λc=>decide (c≠32/\c≠10))&&decide (w.length<=200))=true->∀w∈ws,e_ w:=λh w hw=>by have q:=Yaj.mp (fB.mp h w hw);exact iY q.1 (of_decide_eq_true q.2)
   exact cD ⟨_,[[48]],rfl,rfl,(λz=>nomatch z),by decide,k1 rfl⟩ (cD ⟨_,[[55]],rfl,rfl,(λz=>nomatch z),by decide,k1 rfl⟩ (cD ⟨_,[[49],[50]],rfl,rfl,(λz=>nomatch z),by decide,k1 rfl⟩ (cD ⟨_,[[59],[116,104,101],[101,110,100]],rfl,rfl,(λz=>nomatch z),by decide,k1 rfl⟩ (cD ⟨_,[[35]],rfl,rfl,(λz=>nomatch z),by decide,k1 rfl⟩ (cD ⟨_,[[104,97,108,116]],rfl,rfl,(λz=>nomatch z),by decide,k1 rfl⟩ (cD ⟨_,[[45,49],[53],[54]],rfl,rfl,(λz=>nomatch z),by decide,k1 rfl⟩ Gg))))))
  obtain⟨d,gd,b,ws,rfl,hb,wn,wl,W⟩:=Gf aX (j:=j) lj;have lb:b.length<=1000:=by rw[hb,Yi,Yk];have:=(Cj 32 200 ws λt ht=>(W t ht).2.2).2;have:ws.length*(200+1)<=3*201:=Ia wl (Yt _);omega
  refine spl (M':=S++[.lst [D.str [32,48],.str [32,55],.str [32,49,32,50],.str [32,59,32,116,104,101,32,101,110,100],.str [32,35],.str [32,104,97,108,116],.str [32,45,49,32,53,32,54]]]) (glue [32] ((nm::is.map Zd)++ws)) (oN (λw hw=>?_) (λz=>nomatch z) (by rw[Yi,Yo,Yg];omega) ?_) ((Zg rfl (Zg (wJ rfl rfl) (Zg rfl rfl ((cY (by decide)).trans (by rw[hj']))) (ji (dN ..) gd)) (iG (by omega))).trans ?_) (P.pS.trans (iI _ _))
  .rcases gk.mp hw with hw|hw
   .exact uU P.F w hw
   .exact W w hw
  .refine .num P.F.tab ?_;have:=P.F.len;have:0<ws.length:=Nx.mpr wn;show(is.map Zd++ws).length≠_;rw[Yi,Yg];omega
  .rw[K1 (nm::is.map Zd) ws (λz=>nomatch z) wn,←hb];rfl
 .rw[decide_eq_false h]at c0;exact cO.skip c0 (Zwd P hn h1)
end
theorem ZoS{nm:List Nat}(F:dW nm is ks):sG nm=true/\1<=nm.length:=by
 have a:∀p∈di,sG p.1=true/\1<=p.1.length:=by decide
 exact a _ (Gi F.tab)
theorem ZtE:R8=Zo (aD 2 (aZ bC mY (Zb 0) (Za (eC (.str [32])) (Zf)))) (Zo (aD 3 (e2 aQ (Zb 1) (eC (.int 12)))) (Zo (aD 4 (e2 bD (Zb 1) (eC (.int 12)))) (Zo (aD 5 (e2 Zk (eC (.int 1)) (e2 aQ (Zb 4) (Zx qH (Za (eC (.int 1)) (Za (e2 dY (Zx a_ (Za (Zb 2) (Zf))) (eC (.int 1))) (Zf))))))) sp4))):=rfl
theorem Zko{g:GR}(F:dW g.1 g.2 ks)(c:Int)(M:Store):∃t,jo t/\yK [.str (aC g),.int c] M= .ok (.str t) M:=by
 obtain⟨nm,is⟩:=g;obtain⟨k,hk,lk⟩:=gw c 12 (by decide);have hk':c % 12=(k:Int):=hk;obtain⟨mm,hmm⟩:∃mm:Nat,mm=if 1<=is.length then is.length else 1:=⟨_,rfl⟩;have mp:0<mm:=by rw[hmm];by_cases h:1<=is.length<;>simp[h];omega
 obtain⟨a,ha,la⟩:=gw (c / 12) mm mp;have hl:=(sS F.few.1 F.few.2 F.num).2;have hsp:lV (fK nm is) [32]=nm::is.map Zd:=FN 32 _ (λz=>nomatch z) λt ht=>(uU F t ht).1;have w0:(aZ bC mY (Zb 0) (Za (eC (.str [32])) (Zf))) [Ya (.str (fK nm is)),Ya (.int c),Ye,Ye,Ye,Ye,Ye,Ye,Ye,Ye] M= .ok (.ref M.length) (M++[.lst ((nm::is.map Zd).map D.str)]):=by refine oG (d:=.str [32]) rfl rfl ?_;simp only[Al,hsp];rw[if_pos ⟨by decide,Ym (Dp hl 2) (by decide)⟩];rfl
 have P:Sp M nm is ks k (1+a) (M++[.lst ((nm::is.map Zd).map D.str)]):=⟨F,iI _ _,dN ..,by omega,λh=>by rw[hmm,if_pos h]at la;omega⟩;obtain⟨t,B,q⟩:=ZvU (c:=c) (r:=c / 12) P (ZoS F).1 (ZoS F).2;refine⟨t,B,BV.pure (env:=[Ya (.str (fK nm is)),Ya (.int c),Ye,Ye,Ye,Ye,Ye,Ye,Ye,Ye]) ?_ rfl⟩;rw[ZtE];refine BV.dX w0 ?_;refine BV.dX (e:=.int (k:Int)) (S:=M++[MO.lst ((nm::is.map Zd).map D.str)]) (Zg rfl rfl ((cY (by decide)).trans (by rw[hk']))) ?_;refine BV.dX (e:=.int (c / 12)) (S:=M++[MO.lst ((nm::is.map Zd).map D.str)]) (Zg rfl rfl (iW (by decide))) ?_;refine BV.dX (e:=.int ((1+a:Nat):Int)) (S:=M++[MO.lst ((nm::is.map Zd).map D.str)]) ?_ q;have ml:(Zx qH (Za (eC (.int 1)) (Za (e2 dY (Zx a_ (Za (Zb 2) (Zf))) (eC (.int 1))) (Zf)))) [Ya (.str (fK nm is)),Ya (.int c),Ya (.ref M.length),Ya (.int (k:Int)),Ya (.int (c / 12)),Ye,Ye,Ye,Ye,Ye] (M++[.lst ((nm::is.map Zd).map D.str)])= .ok (.int (mm:Int)) (M++[.lst ((nm::is.map Zd).map D.str)]):=by
  have s:(e2 dY (Zx a_ (Za (Zb 2) (Zf))) (eC (.int 1))) [Ya (.str (fK nm is)),Ya (.int c),Ya (.ref M.length),Ya (.int (k:Int)),Ya (.int (c / 12)),Ye,Ye,Ye,Ye,Ye] (M++[.lst ((nm::is.map Zd).map D.str)])= .ok (.int (is.length:Int)) (M++[.lst ((nm::is.map Zd).map D.str)]):=Zg (dh rfl (ux (dN ..))) rfl (KY.trans (by rw[Yg,Yo,Yg];congr 2;omega));simp only[Zx,Zn (f:=eC (.int 1)) (d:=.int 1) rfl (Zn s (g:=Zf) rfl),R3.bind,ZjM];congr 2;rw[hmm];by_cases h:1<=is.length
  .rw[if_pos h];by_cases z:(is.length:Int)>1
   .rw[if_pos z]
   .rw[if_neg z];omega
  .rw[if_neg h,if_neg (by omega)];rfl
 have md:=Zg (op:=aQ) (f:=Zb 4) (a:=.int (c / 12)) rfl ml ((cY (by omega)).trans (by rw[ha]));exact(Zg (op:=Zk) (f:=eC (.int 1)) rfl md rfl).trans (by rw[zF];rfl)
noncomputable def Zu1:S3:=aK (e2 bh (aR nq (Za (aZ bC dZ (eC (.str [10])) (Za (Zb 2) (Zf))) (Zf))) (Zb 3))
noncomputable def SN:S3:=Zo (aJ (jh (e2 dg (aR nq (Za (Zb 9) (Zf))) (bA (Za (eC (.int 2)) (Za (e2 Zk (Zb 4) (eC (.int 1))) (Zf))))) (e2 dg (e1 (qT [66,97,100,82,111,119] [114,111,119]) (yG [66,97,100,82,111,119] [114,111,119] Ft (Za (e2 Zk (Zb 4) (eC (.int 7))) (Zf)))) (e2 Zk (Zb 4) (eC (.int 7))))) (aK (eC (.bl false))) (aU)) Zu1
noncomputable def tl9:S3:=Zo (aJ (cT (e2 eX (Zx a_ (Za (Zb 2) (Zf))) (eC (.int 1))) (e2 bh (e2 aQ (aR Zz (Za (Zb 0) (Za (eC (.int 2)) (Zf)))) (eC (.int 5))) (eC (.int 1)))) (Zo (aD 8 (e2 aQ (e2 bD (aR Zz (Za (Zb 0) (Za (eC (.int 2)) (Zf)))) (eC (.int 5))) (e2 dY (Zx a_ (Za (Zb 2) (Zf))) (eC (.int 1))))) (Zo (aD 4 (Zx qI (Za (Zb 4) (Za (Zb 8) (Zf))))) (Zo (Ai (Zb 5) (Zb 8) (e2 Zk (e2 Zk (e2 aM (Zb 2) (Zb 8)) (eC (.str [32]))) (e2 aM (Zb 2) (e2 Zk (Zb 8) (eC (.int 1)))))) (Zo (fG (aZ j7 xX (Zb 5) (Za (e2 Zk (Zb 8) (eC (.int 1))) (Zf)))) (aD 9 (aZ bC dZ (eC (.str [10])) (Za (Zb 5) (Zf)))))))) (aU)) SN
noncomputable def tl8:S3:=Zo (aD 9 (aZ bC dZ (eC (.str [10])) (Za (Zb 5) (Zf)))) tl9
noncomputable def tl7:S3:=Zo (v6 (xY (e2 Zk (eC (.int 1)) (e2 aQ (aR Zz (Za (Zb 0) (Za (eC (.int 1)) (Zf)))) (eC (.int 3))))) (fO 6) (Zo (aD 7 (e2 Zk (e2 bD (aR Zz (Za (Zb 0) (Za (eC (.int 1)) (Zf)))) (eC (.int 3))) (e2 cZ (Zb 6) (Zb 6)))) (Zo (aD 7 (e2 Zk (Zb 7) (e2 bD (aR Zz (Za (Zb 0) (Za (eC (.int 2)) (Zf)))) (e2 Zk (eC (.int 1)) (e2 cZ (eC (.int 7)) (Zb 6)))))) (Zo (aD 8 (e2 aQ (Zb 7) (Zx a_ (Za (Zb 2) (Zf))))) (Zo (Ai (Zb 5) (Zb 8) (aR yK (Za (e2 aM (Zb 2) (Zb 8)) (Za (e2 bD (Zb 7) (Zx a_ (Za (Zb 2) (Zf)))) (Zf))))) (aD 4 (Zx qI (Za (Zb 4) (Za (Zb 8) (Zf)))))))))) tl8
noncomputable def tl6:S3:=Zo (aD 5 (Zx Ad (Za (Zb 2) (Zf)))) tl7
noncomputable def tl5:S3:=Zo (aD 4 (Zx a_ (Za (Zb 2) (Zf)))) tl6
noncomputable def tl4:S3:=Zo (aJ (cT (e2 dg (e2 aM (Zb 3) (eC (.int 0))) (eC (.int 0))) (e2 dg (e2 aM (Zb 3) (eC (.int 0))) (eC (.int 1)))) (aK (eC (.bl false))) (aU)) tl5
noncomputable def tl3:S3:=Zo (aJ (jh (cT (e2 bh (Zb 1) (eC (.int 0))) (e2 dg (Zb 3) (bA (Za (eC (.int 0)) (Za (eC (.int 0)) (Zf)))))) (cT (e2 bh (Zb 1) (eC (.int 2))) (e2 dg (Zb 3) (bA (Za (eC (.int 1)) (Za (eC (.int 0)) (Zf))))))) (aK (eC (.bl false))) (aU)) tl4
noncomputable def tl2:S3:=Zo (aD 3 (aR nq (Za (aZ bC dZ (eC (.str [10])) (Za (Zb 2) (Zf))) (Zf)))) tl3
noncomputable def tl1:S3:=Zo (aD 2 (aR Fz (Za (Zb 0) (Za (Zb 1) (Zf))))) tl2
noncomputable def tl0:S3:=Zo (aD 1 (e2 aQ (aR Zz (Za (Zb 0) (Za (eC (.int 0)) (Zf)))) (eC (.int 3)))) tl1
theorem ZsB:R9=tl0:=rfl
noncomputable def SQ:S3:=Zo (aD 7 (e2 Zk (e2 bD (aR Zz (Za (Zb 0) (Za (eC (.int 1)) (Zf)))) (eC (.int 3))) (e2 cZ (Zb 6) (Zb 6)))) (Zo (aD 7 (e2 Zk (Zb 7) (e2 bD (aR Zz (Za (Zb 0) (Za (eC (.int 2)) (Zf)))) (e2 Zk (eC (.int 1)) (e2 cZ (eC (.int 7)) (Zb 6)))))) (Zo (aD 8 (e2 aQ (Zb 7) (Zx a_ (Za (Zb 2) (Zf))))) (Zo (Ai (Zb 5) (Zb 8) (aR yK (Za (e2 aM (Zb 2) (Zb 8)) (Za (e2 bD (Zb 7) (Zx a_ (Za (Zb 2) (Zf)))) (Zf))))) (aD 4 (Zx qI (Za (Zb 4) (Za (Zb 8) (Zf))))))))
theorem Gn(ns:List Int)(k:Nat)(M:Store):∃v:Int,Zz [.aH (ns.map D.int),.int (k:Int)] M= .ok (.int v) M:=by
 by_cases h:k<ns.length
 .refine⟨ns[k],Rt.pure (G:=[]) (env:=[Ya (.aH (ns.map D.int)),Ya (.int (k:Int))]) ?_ rfl⟩;rw[iJ];unfold Ks;have c:qy (.int (k:Int)) (.int ((ns.map D.int).length:Int)) M= .ok (.bl true) M:=by rw[z7,decide_eq_true (by rw[Yg];omega)]
  refine qD ((iQ (Zg rfl (dh (a:=.aH (ns.map D.int)) rfl rfl) c)).trans (qF (Zg rfl rfl ?_)))
  .have:dM (ns.map D.int) (k:Int)=Ya (.int ns[k]):=by rw[iw,gO,Y2 h];rfl
   simp only[JH,JK,JL,JM,this]
 .refine⟨0,Rt.pure (G:=[]) (env:=[Ya (.aH (ns.map D.int)),Ya (.int (k:Int))]) ?_ rfl⟩;rw[iJ];unfold Ks;have c:qy (.int (k:Int)) (.int ((ns.map D.int).length:Int)) M= .ok (.bl false) M:=by rw[z7,decide_eq_false (by rw[Yg];omega)]
  exact(Zy (mW (Zg rfl (dh (a:=.aH (ns.map D.int)) rfl rfl) c))).trans (qF rfl)
structure LI(gs:List GR)(ts:List (List Nat))(p:Nat):Prop where
 len:ts.length=gs.length
 each:∀(i:Nat) t g,ts[i]?=Ya t->gs[i]?=Ya g->t=aC g\/jo t
 le:p<=gs.length
 good:∀i,i<p->ts[i]?=(gs.map aC)[i]?
 bad:p<gs.length->∃t,ts[p]?=Ya t/\jo t
variable{p:Nat}
theorem LI.free(L:LI gs ts p)(F:uT gs):∀t∈ts,10∉t/\t.length<=5000:=λt ht=>by
 obtain⟨i,hi⟩:=zr ht;have li:i<gs.length:=by have:=p6 hi;have:=L.len;omega
 have hg:gs[i]?=Ya gs[i]:=Y2 li;rcases L.each i t _ hi hg with e|B
 .obtain⟨ks,h⟩:=F.fit _ (o5 li);rw[e];exact Su h
 .exact⟨B.nl,B.len⟩
theorem LI.put{a:Nat}{t:List Nat}(L:LI gs ts p)(ha:a<gs.length)(B:jo t):LI gs (ts.set a t) (dm p a):=by
 have la:a<ts.length:=by rw[L.len];exact ha
 refine⟨by rw[vB];exact L.len,λi u g hu hg=>?_,by omega,λi hi=>?_,λ_=>?_⟩
 .by_cases e:i=a
  .subst e;rw[jR la]at hu;cases hu;exact .inr B
  .rw[Y5 (cQ e)]at hu;exact L.each i u g hu hg
 .rw[Y5 (by omega)];exact L.good i (by omega)
 .by_cases e:p<a
  .rw[H_ (by omega),Y5 (by omega)];exact L.bad (by omega)
  .rw[HX (by omega)];exact⟨t,jR la,B⟩
theorem ZoQ(F:uT gs)(hp:p<ts.length)(h1:∀i,i<p->ts[i]?=(gs.map aC)[i]?)(h2:∃t,ts[p]?=Ya t/\jo t)(h3:∀t∈ts,10∉t/\t.length<=5000)(h4:ts.length<=100)(h5:p<=gs.length)(M:Store):FL nq [.str (glue [10] ts)] M [.int 2,.int ((p+1:Nat):Int)]:=by
 obtain⟨t,ht,B⟩:=h2;have e:ts=(gs.take p).map aC++t::ts.drop (p+1):=by
  have q:ts.take p=(gs.take p).map aC:=by
   apply Di;intro i;by_cases hi:i<p
   .rw[xG hi,h1 i hi,NP,xG hi]
   .rw[Vv (by rw[Y7];omega),Vv (by rw[Yg,Y7];omega)]
  rw[←q];have e2:t=ts[p]:=by rw[Y2 hp]at ht;exact(eE ht).symm
  rw[e2,←xF hp,Vu]
 have lp:(gs.take p).length=p:=by rw[Y7];omega
 have L:Ss (gs.take p) ((gs.take p).map aC++t::ts.drop (p+1)):=⟨λg hg=>F.fit g (zu hg),by rw[←e];exact h3,by rw[←e];exact h4⟩;have q:=Zmo L B M;rw[←e,lp]at q;exact q
theorem K3(h:f env S= .ok (.ref n) S)(g:S[n]?=Ya (.lst (ts.map D.str)))(h3:∀t∈ts,10∉t/\t.length<=5000)(h4:ts.length<=100):(aZ bC dZ (eC (.str [10])) (Za f (Zf))) env S= .ok (.str (glue [10] ts)) S:=oG rfl h (R_ g (ZjU h3 h4).1)
theorem SX(a b:Int):([D.int a,.int b]:List D).all (cM DEEP)=true:=by show(cM DEEP (.int a)&&(cM DEEP (.int b)&&true))=true;rw[Zj7,Zj7];rfl
theorem S6{F:F3}(h:g env M= .ok [d] M)(hF:FL F [d] M xs):∃n S,aR F g env M= .ok (.ref n) S/\M<+:S/\S[n]?=Ya (.lst xs):=let⟨n,S,a,b,c,_⟩:=LF.call h hF;⟨n,S,a,b,c⟩
section
variable {gs:List GR} {S:Store} {r2 r3:Nat} {a0:Int}
structure LS(gs:List GR)(S:Store)(r2 r3:Nat)(a0:Int):Prop where
 F:uT gs
 few:gs.length<=41
 g2:S[r2]?=Ya (.lst ((gs.map aC).map D.str))
 g3:S[r3]?=Ya (.lst [.int a0,.int 0])
 ea:a0=if mF gs then 0 else 1
theorem LS.pre{S':Store}(L:LS gs S r2 r3 a0)(p:S<+:S'):LS gs S' r2 r3 a0:=⟨L.F,L.few,jB p L.g2,jB p L.g3,L.ea⟩
theorem LS.set{r5:Nat}{o:MO}(L:LS gs S r2 r3 a0)(h2:r2≠r5)(h3:r3≠r5):LS gs (S.set r5 o) r2 r3 a0:=⟨L.F,L.few,by rw[Y5 (cQ h2)];exact L.g2,by rw[Y5 (cQ h3)];exact L.g3,L.ea⟩
theorem LS.free(L:LS gs S r2 r3 a0):∀t∈gs.map aC,10∉t/\t.length<=5000:=λt ht=>by obtain⟨g,hg,rfl⟩:=jD.mp ht;obtain⟨ks,h⟩:=L.F.fit g hg;exact Su h
theorem Zro(L:LS gs S r2 r3 a0)(d0 d1 d4 d5 d6 d7 d8 d9:Option D):Rt (Zu1 [d0,d1,Ya (.ref r2),Ya (.ref r3),d4,d5,d6,d7,d8,d9] S) (.bl true):=by obtain⟨n,S',h,p,g⟩:=S6 (Zn (K3 (f:=Zb 2) (env:=[d0,d1,Ya (.ref r2),Ya (.ref r3),d4,d5,d6,d7,d8,d9]) rfl L.g2 L.free (by rw[Yg];have:=L.few;omega)) (g:=Zf) rfl) (Zjo L.F S);rw[←L.ea]at g;exact Rt.ret (Zg h rfl (ZpB g (jB p L.g3) (SX _ _)))
theorem ZoU(L:LS gs S r2 r3 a0){q:Nat}(hp:q<ts.length)(h1:∀i,i<q->ts[i]?=(gs.map aC)[i]?)(h2:∃t,ts[q]?=Ya t/\jo t)(h3:∀t∈ts,10∉t/\t.length<=5000)(h4:ts.length<=100)(h5:q<=gs.length)(d0 d1 d5 d6 d7 d8:Option D):Rt (SN [d0,d1,Ya (.ref r2),Ya (.ref r3),Ya (.int (q:Int)),d5,d6,d7,d8,Ya (.str (glue [10] ts))] S) (.bl true):=by
 obtain⟨n,S',h,p,g⟩:=S6 (F:=nq) (g:=Za (Zb 9) Zf) (env:=[d0,d1,Ya (.ref r2),Ya (.ref r3),Ya (.int (q:Int)),d5,d6,d7,d8,Ya (.str (glue [10] ts))]) rfl (ZoQ L.F hp h1 h2 h3 h4 h5 S);have l:=wJ (env:=[d0,d1,Ya (.ref r2),Ya (.ref r3),Ya (.int (q:Int)),d5,d6,d7,d8,Ya (.str (glue [10] ts))]) (M:=S') (g:=(Za (eC (.int 2)) (Za (e2 Zk (Zb 4) (eC (.int 1))) (Zf)))) (ds:=[.int 2,.int ((q+1:Nat):Int)]) rfl rfl;have f7:(e1 (qT [66,97,100,82,111,119] [114,111,119]) (yG [66,97,100,82,111,119] [114,111,119] Ft (Za (e2 Zk (Zb 4) (eC (.int 7))) (Zf)))) [d0,d1,Ya (.ref r2),Ya (.ref r3),Ya (.int (q:Int)),d5,d6,d7,d8,Ya (.str (glue [10] ts))] (S'++[.lst [.int 2,.int ((q+1:Nat):Int)]])= .ok (.int ((q:Int)+7)) (S'++[.lst [.int 2,.int ((q+1:Nat):Int)]]++[.ins (0::[66,97,100,82,111,119]) [([114,111,119],.int ((q:Int)+7))]]):=by
  refine eZ (a:=.ref (S'++[MO.lst [.int 2,.int ((q+1:Nat):Int)]]).length) (M1:=S'++[.lst [.int 2,.int ((q+1:Nat):Int)]]++[.ins (0::[66,97,100,82,111,119]) [([114,111,119],.int ((q:Int)+7))]]) ?_ ?_
  .rw[yG,Zn (f:=e2 Zk (Zb 4) (eC (.int 7))) (d:=.int ((q:Int)+7)) rfl (g:=Zf) rfl];refine if_pos (decide_eq_true (Sh ?_));have:=L.few;omega
  .rw[qT,dN];rfl
 refine Rt.skip (M':=S'++[.lst [.int 2,.int ((q+1:Nat):Int)]]++[.ins (0::[66,97,100,82,111,119]) [([114,111,119],.int ((q:Int)+7))]]) ((qG (Zg h l (Zl4 (Ak g _) (dN ..) (SX _ _)))).trans (Zg f7 rfl ?_)) (Zro (L.pre (p.trans ((iI _ _).trans (iI _ _)))) _ _ _ _ _ _ _ _);simp only[dg,jY,jZ,j4,j5,j6,decide_true];rfl
end
theorem Zqu{g1 g2:GR}{k1 k2:List (List Nat)}(F1:dW g1.1 g1.2 k1)(F2:dW g2.1 g2.2 k2):jo (aC g1++[32]++aC g2):=by
 have e:aC g1++[32]++aC g2=glue [32] ((g1.1::g1.2.map Zd)++(g2.1::g2.2.map Zd)):=by rw[K1 (g1.1::g1.2.map Zd) (g2.1::g2.2.map Zd) (λz=>nomatch z) (λz=>nomatch z),←jC];rfl
 rw[e];have a1:=F1.few.1;have a2:=F2.few.1;refine oN (λw hw=>?_) (λz=>nomatch z) (by rw[Yi,Yo,Yo,Yg,Yg];omega) ?_
 .rcases gk.mp hw with hw|hw
  .exact uU F1 w hw
  .exact uU F2 w hw
 .refine .num F1.tab ?_;show(g1.2.map Zd++(g2.1::g2.2.map Zd)).length≠_;rw[Yi,Yo,Yg,Yg];have:=F1.len;omega
theorem Zqf{ty:D->Store->Bool}{me:D->List D->Store->R3 D}{o:E3}{M M1 M2 M3:Store}{a:D}(h1:o env M= .ok a M1)(hi:ty a M1=true)(h2:g env M1= .ok ds M2)(h3:me a ds M2= .ok d M3):aZ ty me o g env M= .ok d M3:=by simp only[aZ,h1,R3.bind,hi,if_true,h2,h3]
theorem ZhY{α β:Type}(f:α->β):∀(xs:List α) (k:Nat),(xs.map f).eraseIdx k=(xs.eraseIdx k).map f
 |[],_=>rfl|_::_,0=>rfl|x::xs,k+1=>by show f x::(xs.map f).eraseIdx k=f x::(xs.eraseIdx k).map f;rw[ZhY f xs k]
theorem ZnQ{a:Nat}:qI [.int (p:Int),.int (a:Int)] M= .ok (.int ((dm p a:Nat):Int)) M:=by
 rw[ZoB];congr 2;by_cases h:(a:Int)<p
 .rw[if_pos h];omega
 .rw[if_neg h];omega
section
variable {gs:List GR} {S:Store} {r2 r3 r5:Nat} {a0:Int}
theorem ZtK(L:LS gs S r2 r3 a0)(n2:r2≠r5)(n3:r3≠r5)(I:LI gs ts p)(hp:p<gs.length)(g5:S[r5]?=Ya (.lst (ts.map D.str)))(ns:List Int)(d1 d6 d7 d8:Option D):Rt (tl9 [Ya (.aH (ns.map D.int)),d1,Ya (.ref r2),Ya (.ref r3),Ya (.int (p:Int)),Ya (.ref r5),d6,d7,d8,Ya (.str (glue [10] ts))] S) (.bl true):=by
 have lf:=L.few;have ll:=I.len;have go:Rt (SN [Ya (.aH (ns.map D.int)),d1,Ya (.ref r2),Ya (.ref r3),Ya (.int (p:Int)),Ya (.ref r5),d6,d7,d8,Ya (.str (glue [10] ts))] S) (.bl true):=ZoU L (by omega) I.good (I.bad hp) (I.free L.F) (by omega) (by omega) _ _ _ _ _ _;have ln:∀{d4 d8:Option D},(Zx a_ (Za (Zb 2) (Zf))) [Ya (.aH (ns.map D.int)),d1,Ya (.ref r2),Ya (.ref r3),d4,Ya (.ref r5),d6,d7,d8,Ya (.str (glue [10] ts))] S= .ok (.int (gs.length:Int)) S:=dh rfl ((ux L.g2).trans (by rw[Yg,Yg]));obtain⟨c,hc⟩:=Gn ns 2 S;have c2:(e2 bh (e2 aQ (aR Zz (Za (Zb 0) (Za (eC (.int 2)) (Zf)))) (eC (.int 5))) (eC (.int 1))) [Ya (.aH (ns.map D.int)),d1,Ya (.ref r2),Ya (.ref r3),Ya (.int (p:Int)),Ya (.ref r5),d6,d7,d8,Ya (.str (glue [10] ts))] S= .ok (.bl (decide (c % 5=1))) S:=Zg (Zg (j9 rfl rfl hc) rfl (cY (by decide))) rfl (by simp only[bh,jY,jZ,j4,j5,j6]);by_cases h1:1<gs.length
 .have c1:(e2 eX (Zx a_ (Za (Zb 2) (Zf))) (eC (.int 1))) [Ya (.aH (ns.map D.int)),d1,Ya (.ref r2),Ya (.ref r3),Ya (.int (p:Int)),Ya (.ref r5),d6,d7,d8,Ya (.str (glue [10] ts))] S= .ok (.bl true) S:=Zg ln rfl (by simp only[vX];rw[decide_eq_true (by omega)]);by_cases h2:c % 5=1
  .rw[decide_eq_true h2]at c2;obtain⟨a,ha,la⟩:=gw (c / 5) (gs.length-1) (by omega);have l1:a<gs.length:=by omega
   have l2:a+1<gs.length:=by omega
   obtain⟨k1,F1⟩:=L.F.fit _ (o5 l1);obtain⟨k2,F2⟩:=L.F.fit _ (o5 l2);have B:=Zqu F1 F2;obtain⟨jt,hjt⟩:∃jt,jt=aC gs[a]++[32]++aC gs[a+1]:=⟨_,rfl⟩;rw[←hjt]at B;have I1:=I.put l1 B;have w1:(aC gs[a]).length<=248:=(sS F1.few.1 F1.few.2 F1.num).2;have w2:(aC gs[a+1]).length<=248:=(sS F2.few.1 F2.few.2 F2.num).2;obtain⟨S1,hS1⟩:∃S1,S1=S.set r5 (.lst ((ts.set a jt).map D.str)):=⟨_,rfl⟩;have S8:a<(ts.map D.str).length:=by rw[Yg];omega
   have s8:(e2 aQ (e2 bD (aR Zz (Za (Zb 0) (Za (eC (.int 2)) (Zf)))) (eC (.int 5))) (e2 dY (Zx a_ (Za (Zb 2) (Zf))) (eC (.int 1)))) [Ya (.aH (ns.map D.int)),d1,Ya (.ref r2),Ya (.ref r3),Ya (.int (p:Int)),Ya (.ref r5),d6,d7,d8,Ya (.str (glue [10] ts))] S= .ok (.int (a:Int)) S:=Zg (Zg (j9 rfl rfl hc) rfl (iW (by decide))) (Zg ln rfl KY) ((cY (by omega)).trans (by rw[←ha];congr 3;omega));have s4:(Zx qI (Za (Zb 4) (Za (Zb 8) (Zf)))) [Ya (.aH (ns.map D.int)),d1,Ya (.ref r2),Ya (.ref r3),Ya (.int (p:Int)),Ya (.ref r5),d6,d7,Ya (.int (a:Int)),Ya (.str (glue [10] ts))] S= .ok (.int ((dm p a:Nat):Int)) S:=by simp only[Zx,Zn (f:=Zb 4) (d:=.int (p:Int)) (env:=[Ya (.aH (ns.map D.int)),d1,Ya (.ref r2),Ya (.ref r3),Ya (.int (p:Int)),Ya (.ref r5),d6,d7,Ya (.int (a:Int)),Ya (.str (glue [10] ts))]) (M:=S) rfl (Zn (f:=Zb 8) (d:=.int (a:Int)) rfl (g:=Zf) rfl),R3.bind];exact ZnQ
   have gi:∀{i:Nat} (li:i<gs.length),dM ((gs.map aC).map D.str) (i:Int)=Ya (.str (aC gs[i])):=λ{i} li=>by rw[iw,gO,gO,Y2 li];rfl
   have sj:(e2 Zk (e2 Zk (e2 aM (Zb 2) (Zb 8)) (eC (.str [32]))) (e2 aM (Zb 2) (e2 Zk (Zb 8) (eC (.int 1))))) [Ya (.aH (ns.map D.int)),d1,Ya (.ref r2),Ya (.ref r3),Ya (.int ((dm p a:Nat):Int)),Ya (.ref r5),d6,d7,Ya (.int (a:Int)),Ya (.str (glue [10] ts))] S= .ok (.str jt) S:=(Zg (Zg (Zg rfl rfl (ji L.g2 (gi l1))) rfl (iG (by simp only[Yk];omega))) (Zg (b:=.int ((a+1:Nat):Int)) rfl rfl (ji L.g2 (gi l2))) (iG (by rw[Yi,Yk];omega))).trans (by rw[hjt]);have pt:JP (.str jt) (.ref r5) (.int (a:Int)) S= .ok .non S1:=by rw[Qx,g5];simp only[Ey,if_pos S8];rw[hS1,List.map_set]
   have S_:S1[r5]?=Ya (.lst ((ts.set a jt).map D.str)):=by rw[hS1];exact jR (p6 g5)
   obtain⟨ts',hts⟩:∃ts',ts'=(ts.set a jt).eraseIdx (a+1):=⟨_,rfl⟩;have Tc:a+1<(ts.set a jt).length:=by rw[vB];omega
   have lt':ts'.length=gs.length-1:=by rw[hts,List.length_eraseIdx_of_lt Tc,vB];omega
   obtain⟨S2,hS2⟩:∃S2,S2=S1.set r5 (.lst (ts'.map D.str)):=⟨_,rfl⟩;have g52:S2[r5]?=Ya (.lst (ts'.map D.str)):=by rw[hS2];exact jR (p6 S_)
   have pop:∃d,(aZ j7 xX (Zb 5) (Za (e2 Zk (Zb 8) (eC (.int 1))) (Zf))) [Ya (.aH (ns.map D.int)),d1,Ya (.ref r2),Ya (.ref r3),Ya (.int ((dm p a:Nat):Int)),Ya (.ref r5),d6,d7,Ya (.int (a:Int)),Ya (.str (glue [10] ts))] S1= .ok d S2:=by
    have q1:jE ((ts.set a jt).map D.str).length ((a:Int)+1)=Ya (a+1):=(Ey _ (a+1)).trans (if_pos (by rw[Yg];exact Tc));have q2:((ts.set a jt).map D.str)[a+1]?=Ya (.str (ts.set a jt)[a+1]):=by rw[gO,Y2 Tc];rfl
    refine⟨.str (ts.set a jt)[a+1],?_⟩;refine Zqf (a:=.ref r5) (M1:=S1) rfl (by rw[Eu,S_]) (Zn (d:=.int ((a:Int)+1)) (M1:=S1) rfl (g:=Zf) rfl) ?_;rw[Qv,S_];dsimp only;rw[if_pos ⟨by omega,by omega⟩];simp only[q1,q2];rw[hS2,hts,ZhY]
   obtain⟨pd,AdH⟩:=pop;have yE:∀t∈ts',10∉t/\t.length<=5000:=λt ht=>I1.free L.F t (by rw[hts]at ht;exact List.mem_of_mem_eraseIdx ht);have L2:LS gs S2 r2 r3 a0:=by rw[hS2,hS1];exact(L.set n2 n3).set n2 n3
   have bef:∀i,i<a+1->ts'[i]?=(ts.set a jt)[i]?:=λi hi=>by rw[hts,List.getElem?_eraseIdx_of_lt hi]
   refine Rt.step (env':=[Ya (.aH (ns.map D.int)),d1,Ya (.ref r2),Ya (.ref r3),Ya (.int ((dm p a:Nat):Int)),Ya (.ref r5),d6,d7,Ya (.int (a:Int)),Ya (.str (glue [10] ts'))]) (M':=S2) ((iQ ((jj c1).trans c2)).trans ?_) (ZoU L2 (ts:=ts') (q:=dm p a) (by omega) (λi hi=>(bef i (by omega)).trans (I1.good i hi)) ?_ yE (by omega) (by omega) _ _ _ _ _ _)
   .refine(Zy (b_ s8)).trans ((Zy (b_ s4)).trans ((Zy (xZ (ZuA sj rfl rfl pt))).trans ((Zy (xZ AdH)).trans (b_ (K3 (f:=Zb 5) rfl g52 yE (by omega))))))
   .obtain⟨t,ht,Bt⟩:=I1.bad (by omega);exact⟨t,(bef _ (by omega)).trans ht,Bt⟩
  .rw[decide_eq_false h2]at c2;exact Rt.skip ((jj c1).trans c2) go
 .have c1:(e2 eX (Zx a_ (Za (Zb 2) (Zf))) (eC (.int 1))) [Ya (.aH (ns.map D.int)),d1,Ya (.ref r2),Ya (.ref r3),Ya (.int (p:Int)),Ya (.ref r5),d6,d7,d8,Ya (.str (glue [10] ts))] S= .ok (.bl false) S:=Zg ln rfl (by simp only[vX];rw[decide_eq_false (by omega)]);exact Rt.skip (mX c1) go
theorem Zpm(L:LS gs S r2 r3 a0)(n2:r2≠r5)(n3:r3≠r5){p k:Nat}(I:LI gs ts p)(hk:k<=10)(g5:S[r5]?=Ya (.lst (ts.map D.str)))(ns:List Int)(d1 d7 d8 d9:Option D):∃ts' p' x7 x8,SQ [Ya (.aH (ns.map D.int)),d1,Ya (.ref r2),Ya (.ref r3),Ya (.int (p:Int)),Ya (.ref r5),Ya (.int (k:Int)),d7,d8,d9] S= .nx [Ya (.aH (ns.map D.int)),d1,Ya (.ref r2),Ya (.ref r3),Ya (.int ((p':Nat):Int)),Ya (.ref r5),Ya (.int (k:Int)),x7,x8,d9] (S.set r5 (.lst (ts'.map D.str)))/\LI gs ts' p'/\p'<gs.length:=by
 have lf:=L.few;have ll:=I.len;have l0:0<gs.length:=Nx.mpr L.F.ne;have ln:∀{d4 d7 d8:Option D},(Zx a_ (Za (Zb 2) (Zf))) [Ya (.aH (ns.map D.int)),d1,Ya (.ref r2),Ya (.ref r3),d4,Ya (.ref r5),Ya (.int (k:Int)),d7,d8,d9] S= .ok (.int (gs.length:Int)) S:=dh rfl ((ux L.g2).trans (by rw[Yg,Yg]));obtain⟨c1,h1⟩:=Gn ns 1 S;obtain⟨c2,h2⟩:=Gn ns 2 S;obtain⟨v,hv⟩:∃v:Int,v=c1 / 3+(k:Int)*k:=⟨_,rfl⟩;obtain⟨w,hw⟩:∃w:Int,w=v+c2 / (1+7*(k:Int)):=⟨_,rfl⟩;obtain⟨a,ha,la⟩:=gw w gs.length l0;obtain⟨ks,F⟩:=L.F.fit _ (o5 la);obtain⟨t,B,hsp⟩:=Zko F (w / gs.length) S;have S8:a<(ts.map D.str).length:=by rw[Yg];omega
 refine⟨ts.set a t,dm p a,Ya (.int w),Ya (.int (a:Int)),?_,I.put la B,by omega⟩;unfold SQ;have s7:(e2 Zk (e2 bD (aR Zz (Za (Zb 0) (Za (eC (.int 1)) (Zf)))) (eC (.int 3))) (e2 cZ (Zb 6) (Zb 6))) [Ya (.aH (ns.map D.int)),d1,Ya (.ref r2),Ya (.ref r3),Ya (.int (p:Int)),Ya (.ref r5),Ya (.int (k:Int)),d7,d8,d9] S= .ok (.int v) S:=(Zg (Zg (j9 rfl rfl h1) rfl (iW (by decide))) (Zg rfl rfl (wK (KC (by omega)))) rfl).trans (by rw[hv]);have s7':(e2 Zk (Zb 7) (e2 bD (aR Zz (Za (Zb 0) (Za (eC (.int 2)) (Zf)))) (e2 Zk (eC (.int 1)) (e2 cZ (eC (.int 7)) (Zb 6))))) [Ya (.aH (ns.map D.int)),d1,Ya (.ref r2),Ya (.ref r3),Ya (.int (p:Int)),Ya (.ref r5),Ya (.int (k:Int)),Ya (.int v),d8,d9] S= .ok (.int w) S:=(Zg rfl (Zg (j9 rfl rfl h2) (Zg rfl (Zg rfl rfl (wK (KC (by decide)))) rfl) (iW (by omega))) rfl).trans (by rw[hw]);have s8:(e2 aQ (Zb 7) (Zx a_ (Za (Zb 2) (Zf)))) [Ya (.aH (ns.map D.int)),d1,Ya (.ref r2),Ya (.ref r3),Ya (.int (p:Int)),Ya (.ref r5),Ya (.int (k:Int)),Ya (.int w),d8,d9] S= .ok (.int (a:Int)) S:=Zg rfl ln ((cY (by omega)).trans (by rw[ha]));have gi:dM ((gs.map aC).map D.str) (a:Int)=Ya (.str (aC gs[a])):=by rw[iw,gO,gO,Y2 la];rfl
 have s5:(aR yK (Za (e2 aM (Zb 2) (Zb 8)) (Za (e2 bD (Zb 7) (Zx a_ (Za (Zb 2) (Zf)))) (Zf)))) [Ya (.aH (ns.map D.int)),d1,Ya (.ref r2),Ya (.ref r3),Ya (.int (p:Int)),Ya (.ref r5),Ya (.int (k:Int)),Ya (.int w),Ya (.int (a:Int)),d9] S= .ok (.str t) S:=j9 (Zg rfl rfl (ji L.g2 gi)) (Zg rfl ln (iW (by omega))) hsp;have pt:JP (.str t) (.ref r5) (.int (a:Int)) S= .ok .non (S.set r5 (.lst ((ts.set a t).map D.str))):=by rw[Qx,g5];simp only[Ey,if_pos S8];rw[List.map_set]
 have s4:(Zx qI (Za (Zb 4) (Za (Zb 8) (Zf)))) [Ya (.aH (ns.map D.int)),d1,Ya (.ref r2),Ya (.ref r3),Ya (.int (p:Int)),Ya (.ref r5),Ya (.int (k:Int)),Ya (.int w),Ya (.int (a:Int)),d9] (S.set r5 (.lst ((ts.set a t).map D.str)))= .ok (.int ((dm p a:Nat):Int)) (S.set r5 (.lst ((ts.set a t).map D.str))):=by simp only[Zx,Zn (f:=Zb 4) (d:=.int (p:Int)) (env:=[Ya (.aH (ns.map D.int)),d1,Ya (.ref r2),Ya (.ref r3),Ya (.int (p:Int)),Ya (.ref r5),Ya (.int (k:Int)),Ya (.int w),Ya (.int (a:Int)),d9]) (M:=S.set r5 (.lst ((ts.set a t).map D.str))) rfl (Zn (f:=Zb 8) (d:=.int (a:Int)) rfl (g:=Zf) rfl),R3.bind];exact ZnQ
 exact(Zy (b_ s7)).trans ((Zy (b_ s7')).trans ((Zy (b_ s8)).trans ((Zy (xZ (ZuA s5 rfl rfl pt))).trans (b_ s4))))
theorem Zua(L:LS gs S r2 r3 a0)(n2:r2≠r5)(n3:r3≠r5)(g5:S[r5]?=Ya (.lst ((gs.map aC).map D.str)))(ns:List Int)(d1:Option D):Rt (tl7 [Ya (.aH (ns.map D.int)),d1,Ya (.ref r2),Ya (.ref r3),Ya (.int (gs.length:Int)),Ya (.ref r5),Ye,Ye,Ye,Ye] S) (.bl true):=by
 obtain⟨c,hc⟩:=Gn ns 1 S;obtain⟨j,hj,lj⟩:=gw c 3 (by decide);have hj':c % 3=(j:Int):=hj;have rg:(xY (e2 Zk (eC (.int 1)) (e2 aQ (aR Zz (Za (Zb 0) (Za (eC (.int 1)) (Zf)))) (eC (.int 3))))) [Ya (.aH (ns.map D.int)),d1,Ya (.ref r2),Ya (.ref r3),Ya (.int (gs.length:Int)),Ya (.ref r5),Ye,Ye,Ye,Ye] S= .ok ⟨j8 0 (1+j),Ye⟩ S:=Znx ((Zg (f:=eC (.int 1)) rfl (Zg (j9 rfl rfl hc) rfl ((cY (by decide)).trans (by rw[hj']))) rfl).trans (by rw[zF];rfl)) (by omega);obtain⟨e',M',hl,ts,q,x6,x7,x8,rfl,L',I,Gp,hq⟩:=Zn2 (it:=⟨j8 0 (1+j),Ye⟩) (g:=fO 6) (body:=SQ)
  (P:=λi env M'=>∃(ts:List (List Nat)) (q:Nat) (x6 x7 x8:Option D),env=[Ya (.aH (ns.map D.int)),d1,Ya (.ref r2),Ya (.ref r3),Ya (.int (q:Int)),Ya (.ref r5),x6,x7,x8,Ye]/\LS gs M' r2 r3 a0/\LI gs ts q/\M'[r5]?=Ya (.lst (ts.map D.str))/\(1<=i->q<gs.length)) (j8 0 (1+j)) 0 _ S
  ⟨gs.map aC,gs.length,Ye,Ye,Ye,rfl,L,⟨Yg ..,λi t g ht hg=>by rw[gO,hg]at ht;cases ht;exact .inl rfl,Yt _,λ_ _=>rfl,λz=>absurd z (tW _)⟩,g5,λz=>absurd z (by decide)⟩ (λ_ _ _ _=>rfl)
  (λi d hd env M' hp=>by obtain⟨ts,q,x6,x7,x8,rfl,L',I,Gp,_⟩:=hp;obtain⟨rfl,li⟩:=Zjl hd;obtain⟨ts',q',y7,y8,h,I',hq'⟩:=Zpm L' n2 n3 I (k:=i) (by omega) Gp ns d1 x7 x8 Ye;exact⟨_,_,_,rfl,h,ts',q',_,y7,y8,rfl,L'.set n2 n3,I',jR (p6 Gp),λ_=>hq'⟩)
 rw[Zps]at hq;refine Rt.loop rg hl (Rt.set (K3 (f:=Zb 5) rfl Gp (I.free L'.F) (by have:=I.len;have:=L'.few;omega)) (ZtK L' n2 n3 I (hq (by omega)) Gp ns _ _ _ _))
theorem law_holds:∀ns:List Int,ns.length<=63->∃M',ZlC [.aH (ns.map D.int)] []= .ok (.bl true) M':=by
 intro ns hns;refine Rt.law (env:=[Ya (.aH (ns.map D.int)),Ye,Ye,Ye,Ye,Ye,Ye,Ye,Ye,Ye]) ?_;rw[ZsB];obtain⟨c,hc⟩:=Gn ns 0 [];obtain⟨st,hst,lst⟩:=gw c 3 (by decide);have hst':c % 3=(st:Int):=hst;refine Rt.set (d:=.int (st:Int)) (M':=[]) (Zg (j9 rfl rfl hc) rfl ((cY (by decide)).trans (by rw[hst']))) ?_;obtain⟨gs,F,few,z0,z2,hL⟩:=Zpc ns st lst [];obtain⟨r2,S1,h1,p1,g1,_⟩:=hL;refine Rt.set (d:=.ref r2) (M':=S1) (j9 rfl rfl h1) ?_;have fr:∀t∈gs.map aC,10∉t/\t.length<=5000:=λt ht=>by obtain⟨g,hg,rfl⟩:=jD.mp ht;obtain⟨ks,h⟩:=F.fit g hg;exact Su h
 obtain⟨r3,S2,h2,p2,g2⟩:=S6 (F:=nq) (Zn (K3 (f:=Zb 2) (env:=[Ya (.aH (ns.map D.int)),Ya (.int (st:Int)),Ya (.ref r2),Ye,Ye,Ye,Ye,Ye,Ye,Ye]) rfl g1 fr (by rw[Yg];omega)) (g:=Zf) rfl) (Zjo F S1);refine Rt.set h2 ?_;obtain⟨a0,ha0⟩:∃a0:Int,a0=if mF gs then 0 else 1:=⟨_,rfl⟩;rw[←ha0]at g2;have L2:LS gs S2 r2 r3 a0:=⟨F,few,jB p2 g1,g2,ha0⟩;have a01:a0=0\/a0=1:=by rw[ha0];cases mF gs<;>simp
 have tail:∀S3,S2<+:S3->Rt (tl4 [Ya (.aH (ns.map D.int)),Ya (.int (st:Int)),Ya (.ref r2),Ya (.ref r3),Ye,Ye,Ye,Ye,Ye,Ye] S3) (.bl true):=λS3 p3=>by
  have L3:=L2.pre p3;have i3:(e2 aM (Zb 3) (eC (.int 0))) [Ya (.aH (ns.map D.int)),Ya (.int (st:Int)),Ya (.ref r2),Ya (.ref r3),Ye,Ye,Ye,Ye,Ye,Ye] S3= .ok (.int a0) S3:=Zg rfl rfl (ji L3.g3 (iw _ 0));have ne:∀x:Int,(e2 dg (e2 aM (Zb 3) (eC (.int 0))) (eC (.int x))) [Ya (.aH (ns.map D.int)),Ya (.int (st:Int)),Ya (.ref r2),Ya (.ref r3),Ye,Ye,Ye,Ye,Ye,Ye] S3= .ok (.bl (!decide (a0=x))) S3:=λx=>Zg i3 rfl (by simp only[dg,jY,jZ,j4,j5,j6]);have c4:(cT (e2 dg (e2 aM (Zb 3) (eC (.int 0))) (eC (.int 0))) (e2 dg (e2 aM (Zb 3) (eC (.int 0))) (eC (.int 1)))) [Ya (.aH (ns.map D.int)),Ya (.int (st:Int)),Ya (.ref r2),Ya (.ref r3),Ye,Ye,Ye,Ye,Ye,Ye] S3= .ok (.bl false) S3:=by
   rcases a01 with e|e
   .have q:=ne 0;rw[decide_eq_true e]at q;exact mX q
   .have q:=ne 0;rw[decide_eq_false (by omega)]at q;have q1:=ne 1;rw[decide_eq_true e]at q1;exact(jj q).trans q1
  refine Rt.skip c4 (Rt.set (d:=.int (gs.length:Int)) (M':=S3) (dh rfl ((ux L3.g2).trans (by rw[Yg,Yg]))) (Rt.set (d:=.ref S3.length) (M':=S3++[.lst ((gs.map aC).map D.str)]) (dh (a:=.ref r2) (M1:=S3) rfl (by simp only[Ae,L3.g2,alloc])) ?_));have x2:=p6 L3.g2;have x3:=p6 L3.g3;exact Zua (L3.pre (iI _ _)) (by omega) (by omega) (dN ..) ns _
 have eqs:∀x:Int,(e2 bh (Zb 1) (eC (.int x))) [Ya (.aH (ns.map D.int)),Ya (.int (st:Int)),Ya (.ref r2),Ya (.ref r3),Ye,Ye,Ye,Ye,Ye,Ye] S2= .ok (.bl (decide ((st:Int)=x))) S2:=λx=>Zg rfl rfl (by simp only[bh,jY,jZ,j4,j5,j6]);have nel:∀x:Int,a0=x->(e2 dg (Zb 3) (bA (Za (eC (.int x)) (Za (eC (.int 0)) (Zf))))) [Ya (.aH (ns.map D.int)),Ya (.int (st:Int)),Ya (.ref r2),Ya (.ref r3),Ye,Ye,Ye,Ye,Ye,Ye] S2= .ok (.bl false) (S2++[.lst [.int x,.int 0]]):=λx e=>Zg (f:=Zb 3) rfl (wJ rfl rfl) (Zl4 (Ak (by rw[←e];exact L2.g3) _) (dN ..) (SX _ _));have q0:=eqs 0;have q2:=eqs 2;have s3:st=0\/st=1\/st=2:=by omega
 rcases s3 with e|e|e
 .have ea:a0=0:=by rw[ha0,z0 e];rfl
  rw[decide_eq_true (by omega)]at q0;rw[decide_eq_false (by omega)]at q2;have q2':(e2 bh (Zb 1) (eC (.int 2))) [Ya (.aH (ns.map D.int)),Ya (.int (st:Int)),Ya (.ref r2),Ya (.ref r3),Ye,Ye,Ye,Ye,Ye,Ye] (S2++[.lst [.int 0,.int 0]])= .ok (.bl false) (S2++[.lst [.int 0,.int 0]]):=Zg rfl rfl (by simp only[bh,jY,jZ,j4,j5,j6];rw[decide_eq_false (by omega)]);exact Rt.skip ((qG ((jj q0).trans (nel 0 ea))).trans (mX q2')) (tail _ (iI _ _))
 .rw[decide_eq_false (by omega)]at q0 q2;exact Rt.skip ((qG (mX q0)).trans (mX q2)) (tail _ (vA _))
 .have ea:a0=1:=by rw[ha0,z2 e];rfl
  rw[decide_eq_false (by omega)]at q0;rw[decide_eq_true (by omega)]at q2;exact Rt.skip ((qG (mX q0)).trans ((jj q2).trans (nel 1 ea))) (tail _ (iI _ _))
end
end Law
set_option maxHeartbeats 400000
namespace Law
open PySem PySem.Spec PyProof.Rows L2 L3
variable{P:List Yd->Prop}
theorem uZ(h:P []):∀us:List Yd,us.length=0->P us:=λus e=>(Dh e)▸h
theorem uS{n:Nat}(h:∀a us,us.length=n->P (a::us))(us:List Yd)(e:us.length=n+1):P us:=by
 cases us with
 |nil=>exact absurd e (Nat.succ_ne_zero n).symm|cons a us=>exact h a us (O9 e)
theorem Cr{xa:aj}(h:∀a,P [a]):∀us:List Yd,us.length=[xa].length->P us:=uS λa=>uZ (h a)
theorem wN{xa xb:aj}(h:∀a b,P [a,b]):∀us:List Yd,us.length=[xa,xb].length->P us:=uS λa=>uS λb=>uZ (h a b)
noncomputable def kN(s:Yd2):aj:=match s with
 | .FunctionDef n _ _ _ _ _ _ _ _ _=>n|_=>rn
noncomputable def kE(P:Params)(x:aj)(t:Nat)(v:Yd):DictEntry:=⟨PyData.keyHash P x,.str x t,v⟩
noncomputable def kC(n q:aj)(r t l k u:Nat):aB:=⟨.type "code",Ye,.fields #[.str n t,.str q (t+1),.str "/claim/cut.py" (t+2),.int l 0,.int k 0,.int 0 0,.int 0 0,.int 3 0,.ref r,.bool true,.int 181 0,.ref (r+1),.none,.ref (r+2),.ref (r+3),.ref (r+4),.int u 0,.int l 0,.str "/claim/cut.py" (u+1)],#[]⟩
noncomputable def kD(n q:aj)(r t l k u:Nat):aB:=⟨.type "code",Ye,.fields #[.str n t,.str q (t+1),.str "/claim/cut.py" (t+2),.int l 0,.int k 0,.int 0 0,.int 0 0,.int 3 0,.ref r,.bool true,.int 181 0,.ref (r+1),.none,.none,.none,.ref (r+2),.int u 0,.int l 0,.str "/claim/cut.py" (u+1)],#[]⟩
noncomputable def kF(s:Yd2)(n q:aj)(v m:Yd)(c:Nat):aB:=⟨.type "function",Ye,.func (W.fnOf n q (qx s) (jx s) (Zv s) v .none .none m Ye (.ref c) .none),#[]⟩
noncomputable def kU(s:Yd2)(r t l k u:Nat):aB:=kC (kN s) (kN s) r t l k u
noncomputable def kV(s:Yd2)(r t l k u:Nat):aB:=kD (kN s) (kN s) r t l k u
noncomputable def kG(s:Yd2)(m:Yd)(c:Nat):aB:=kF s (kN s) (kN s) .none m c
def mG(K:u5)(f c:Nat)(s:Yd2)(n:aj)(m:Yd):Prop:=dO K Y4 n=Ya (Ya (.ref f))/\K.lookup f=Ya (kF s n n .none m c)/\W.codeIn K (.ref c) n=true/\W.keepIn K (.ref f)=true
noncomputable def kM0:Yd:=.str "stepledger.errors" 187
noncomputable def Gq:Yd:=.str "stepledger.rolls" 353
noncomputable def sV:Yd:=.str "law_stepledger_k03_bad_row" 449
noncomputable def k3(P:Params):aB:=⟨.type "dict",Ye,.dict #[kE P "__name__" 165 (.str "law_stepledger_k03_bad_row" 449),kE P "__doc__" 166 .none,kE P "__package__" 167 .none,kE P "__loader__" 168 (.builtin "__main__.__loader__#opaque"),kE P "__spec__" 169 .none,kE P "__annotations__" 170 (.ref 6),kE P "__builtins__" 171 (.ref 4),kE P "__file__" 173 (.str "/claim/cut.py" 172),kE P "__cached__" 174 .none,kE P "LedgerError" 206 (.ref 24),kE P "NoRoll" 222 (.ref 37),kE P "BadCut" 238 (.ref 49),kE P "NoTime" 254 (.ref 61),kE P "NoDispute" 270 (.ref 73),kE P "BadGiven" 286 (.ref 85),kE P "Spent" 302 (.ref 97),kE P "BadRow" 327 (.ref 116),kE P "Unfit" 352 (.ref 135),kE P "FIGURES" 356 (.str "0123456789" 355),kE P "MOST_FIGURES" 358 (.int 60 357),kE P "BOXES" 360 (.int 8 359),kE P "FORMS" 400 (.ref 138),kE P "is_number" 406 (.ref 153),kE P "read_roll" 417 (.ref 160),kE P "read_row" 430 (.ref 167),kE P "refuse_no_roll" 440 (.ref 174),kE P "is_within" 448 (.ref 181),kE P "_law_cell_at" 458 (.ref 188),kE P "_law_mixed" 466 (.ref 195),kE P "_law_number" 475 (.ref 202),kE P "_law_line" 481 (.ref 207),kE P "_law_lines" 487 (.ref 212),kE P "_law_other_word" 500 (.ref 219),kE P "_law_bad_number" 509 (.ref 226),kE P "_law_spoiled" 525 (.ref 233),kE P "_law_fault" 535 (.ref 240),kE P "law" 551 (.ref 247)] 37,#[]⟩
theorem Zr0{l:PySem.W.OpenLaw}{w:aO}{K:u5}{h:aq}{mg:aj->Option Yd}{fa f0 f1 f2 f3 f4 f5 f6 f7 f8 f9 f10 f11 f12 f13 f14:Yq}(X:K.In h)(G:h.Ns Y4 mg)(hfa:mg "law" =Ya (.ref fa)){Ac3 AbX AaE:fj}{T_:Yq}{cX gF gD bH gC bW gG gH gJ jq:Yq}{AaF AbY Abm Mi Aba AbZ Ab0 AcT AcU:ClassData}{AaG AaH:aj}{Tp:Yq}{AaI AaJ:List Yd}{AaK AaL:Bool}{AaM:List aj}{AaN:Option Bool}{AaO AaP:Option Yq}{AaQ AaR AaS AaT AaU:Option Yd}{AaV:Yd}{K8:Array DictEntry}{AaW:Nat}{AaX:Array (Option Yd)}{Ab1 Ab2:aj}{TY:Yq}{Ab3 Ab4:List Yd}{Ab5 Ab6:Bool}{Ab7:List aj}{Ab8:Option Bool}{Ab9 Aca:Option Yq}{Acb Acd Ace Acf Acg:Option Yd}{Ach:Yd}{Mj:Array DictEntry}{Aci:Nat}{Acj:Array (Option Yd)}{Ack Acl:aj}{T3:Yq}{Acm Acn:List Yd}{Aco Acp:Bool}{Acq:List aj}{Acr:Option Bool}{Acs Acu:Option Yq}{Acv Acw Acx Acy Acz:Option Yd}{AcA:Yd}{Ml:Array DictEntry}{AcB:Nat}{AcC:Array (Option Yd)}{TJ AcD AcE AcF TQ AcG:Yd}{AcH AcI:Option Yq}{AcJ:Array (Option Yd)}{g0 g1 g2 g3 g4 g5 g6 g7 g8 g9 g10 g11 g12 g13 g14:Nat}{m0 m1 m2 m3 m4 m5 m6 m7 m8 m9 m10 m11 m12 m13 m14:Yd}(a0:mG K f0 g0 Br "is_number" m0)(a1:mG K f1 g1 Bw "is_within" m1)(a2:mG K f2 g2 Bu "read_row" m2)(a3:mG K f3 g3 Bv "refuse_no_roll" m3)(a4:mG K f4 g4 Bs "read_roll" m4)(a5:mG K f5 g5 Bx "_law_cell_at" m5)(a6:mG K f6 g6 BJ "_law_mixed" m6)(a7:mG K f7 g7 BK "_law_number" m7)(a8:mG K f8 g8 BP "_law_line" m8)(a9:mG K f9 g9 BR "_law_lines" m9)(a10:mG K f10 g10 BW "_law_other_word" m10)(a11:mG K f11 g11 BX "_law_bad_number" m11)(a12:mG K f12 g12 BZ "_law_spoiled" m12)(a13:mG K f13 g13 B_ "_law_fault" m13)(a14:mG K f14 g14 uO "law" m14)(Abb:dO K Y4 "ValueError" =Ya Ye)(Adm:dO K Y4 "all" =Ya Ye)(Adn:dO K Y4 "any" =Ya Ye)(Adf:dO K Y4 "bool" =Ya Ye)(Abn:dO K Y4 "enumerate" =Ya Ye)(Ado:dO K Y4 "int" =Ya Ye)(Abd:dO K Y4 "isinstance" =Ya Ye)(Adp:dO K Y4 "len" =Ya Ye)(Adg:dO K Y4 "list" =Ya Ye)(Adq:dO K Y4 "max" =Ya Ye)(Ads:dO K Y4 "min" =Ya Ye)(Ac4:dO K Y4 "range" =Ya Ye)(Adt:dO K Y4 "str" =Ya Ye)(Ac5:dO K Y4 "tuple" =Ya Ye)(Adu:dO K Y4 "zip" =Ya Ye)(p8:dO K Y4 "BOXES" =Ya (Ya (.int 8 Ac3)))(sW:dO K Y4 "FIGURES" =Ya (Ya (.str "0123456789" AbX)))(Ac6:dO K Y4 "FORMS" =Ya (Ya (.ref T_)))(Abo:wD K T_ di)(nC:dO K Y4 "MOST_FIGURES" =Ya (Ya (.int 60 AaE)))(Aav:dO K Y4 "LedgerError" =Ya (Ya (.ref cX)))(AbR:dO K Y4 "BadCut" =Ya (Ya (.ref gF)))(Abe:dO K Y4 "BadGiven" =Ya (Ya (.ref gD)))(Tz:dO K Y4 "BadRow" =Ya (Ya (.ref bH)))(Aa5:dO K Y4 "NoDispute" =Ya (Ya (.ref gC)))(TF:dO K Y4 "NoRoll" =Ya (Ya (.ref bW)))(AbS:dO K Y4 "NoTime" =Ya (Ya (.ref gG)))(AcK:dO K Y4 "Spent" =Ya (Ya (.ref gH)))(AcL:dO K Y4 "Unfit" =Ya (Ya (.ref gJ)))(Tf:jM K cX=Ya AaF)(Tg:tE K (.ref cX)=Ya (.type "type"))(AdI:Y0 K (.ref cX) (.ref cX)=Ya true)(Lk:jM K gF=Ya AbY)(Ln:tE K (.ref gF)=Ya (.type "type"))(Lp:Y0 K (.ref gF) (.ref gF)=Ya true)(Ld:jM K gD=Ya Abm)(Le:tE K (.ref gD)=Ya (.type "type"))(Lf:Y0 K (.ref gD) (.ref gD)=Ya true)(yV:jM K bH=Ya Mi)(Lq:tE K (.ref bH)=Ya (.type "type"))(Lr:Y0 K (.ref bH) (.ref bH)=Ya true)(K9:jM K gC=Ya Aba)(K_:tE K (.ref gC)=Ya (.type "type"))(La:Y0 K (.ref gC) (.ref gC)=Ya true)(Gu:jM K bW=Ya AbZ)(Ls:tE K (.ref bW)=Ya (.type "type"))(Lw:Y0 K (.ref bW) (.ref bW)=Ya true)(Lx:jM K gG=Ya Ab0)(Ly:tE K (.ref gG)=Ya (.type "type"))(Lz:Y0 K (.ref gG) (.ref gG)=Ya true)(LK:jM K gH=Ya AcT)(LQ:tE K (.ref gH)=Ya (.type "type"))(LR:Y0 K (.ref gH) (.ref gH)=Ya true)(L_:jM K gJ=Ya AcU)(Ma:tE K (.ref gJ)=Ya (.type "type"))(Mf:Y0 K (.ref gJ) (.ref gJ)=Ya true)(Th:K.lookup cX=Ya (qd AaG AaH cX Tp AaI [.type "ValueError",.type "Exception",.type "BaseException",.type "object"] AaK AaM AaJ AaL AaN AaO AaQ AaR AaS AaT AaU "ValueError.__new__"))(Ti:K.lookup Tp=Ya ⟨AaV,AaP,.dict K8 AaW,AaX⟩)(Tj:Fl K8=true)(Tn:Dg K8 "__init__" =Ye)(Abp:K.lookup bH=Ya (qd Ab1 Ab2 bH TY Ab3 [.ref cX,.type "ValueError",.type "Exception",.type "BaseException",.type "object"] Ab5 Ab7 Ab4 Ab6 Ab8 Ab9 Acb Acd Ace Acf Acg "ValueError.__new__"))(Abq:K.lookup TY=Ya ⟨Ach,Aca,.dict Mj Aci,Acj⟩)(Abr:Fl Mj=true)(Abs:Dg Mj "__init__" =Ya (.ref jq))(Abt:K.lookup bW=Ya (qd Ack Acl bW T3 Acm [.ref cX,.type "ValueError",.type "Exception",.type "BaseException",.type "object"] Aco Acq Acn Acp Acr Acs Acv Acw Acx Acy Acz "ValueError.__new__"))(Abu:K.lookup T3=Ya ⟨AcA,Acu,.dict Ml AcB,AcC⟩)(Abv:Fl Ml=true)(Abw:Dg Ml "__init__" =Ye)(AdK:fM K (.ref bH) "__init__" =Ya (Ya (.ref jq)))(Abx:K.lookup jq=Ya ⟨TJ,AcH,.func (W.fnOf "__init__" "BadRow.__init__" (qx wI) (jx wI) (Zv wI) .none AcD AcE AcF AcI TQ AcG),AcJ⟩)(Aby:W.codeIn K TQ "BadRow.__init__" =true)(Abz:W.keepIn K (.ref jq)=true)(AbA:TJ= .type "function")(Tq:Mi.hasDict=true)(AbB:Mi.mro= .ref bH:: .ref cX::PySem.W.qR)(AbC:fM K (.ref bH) "__setattr__" =Ya (Ya (.builtin "object.__setattr__")))(Tr:fM K (.ref bH) "row" =Ya Ye)(AbD:yZ K (.ref cX) "__getattribute__" =Ya (Ya (.builtin "type.__getattribute__")))(AbE:Mx K cX (.type "type")=true)(AbF:Mz K (.ref cX) (.type "type") "__init__" =Ya (.val (.builtin "ValueError.__init__")))(Tt:fM K (.ref bH) "__getattribute__" =Ya (Ya (.builtin "BaseException.__getattribute__")))(Tu:fM K (.ref bH) "__getattr__" =Ya Ye)(Tv:qb K bH (.type "BaseException")=Ya true)(AbG:fM K (.ref bH) "__class__" =Ya (Ya (.builtin "object.__class__")))(Tw:qb K bH (.type "object")=Ya true)(AbH:fM K (.ref bW) "__getattribute__" =Ya (Ya (.builtin "BaseException.__getattribute__")))(AbI:fM K (.ref bW) "__getattr__" =Ya Ye)(AbJ:qb K bW (.type "BaseException")=Ya true)(AbK:fM K (.ref bW) "__class__" =Ya (Ya (.builtin "object.__class__")))(AbL:qb K bW (.type "object")=Ya true)(Ug:yZ K (.builtin "object.__class__") "__get__" =Ya (Ya (.builtin "getset_descriptor.__get__")))(Uh:Mw K (.builtin "object.__class__")=Ya true)(Td:Y0 K (.ref cX) (.type "BaseException")=Ya true)(Aab:Y0 K (.ref bW) (.ref cX)=Ya true)(Aac:Y0 K (.ref bH) (.ref cX)=Ya true)(Aak:Y0 K (.type "NoneType") (.ref bW)=Ya false)(Aaw:Y0 K (.ref bW) (.ref bW)=Ya true)(Aax:Y0 K (.ref bH) (.ref bW)=Ya false)(Aal:Y0 K (.type "NoneType") (.ref bH)=Ya false)(Aay:Y0 K (.ref bH) (.ref bH)=Ya true)(Aaz:Y0 K (.ref bW) (.ref bH)=Ya false)(Aaa:Y0 K (.type "NoneType") (.type "ValueError")=Ya false)(Aae:Y0 K (.ref bW) (.type "ValueError")=Ya true)(Aaf:Y0 K (.ref bH) (.type "ValueError")=Ya true)(Aas:Y0 K (.type "NoneType") (.ref gJ)=Ya false)(AaY:Y0 K (.ref bW) (.ref gJ)=Ya false)(AaZ:Y0 K (.ref bH) (.ref gJ)=Ya false)(Aat:Y0 K (.type "NoneType") (.ref gH)=Ya false)(Aa0:Y0 K (.ref bW) (.ref gH)=Ya false)(Aa1:Y0 K (.ref bH) (.ref gH)=Ya false)(Aam:Y0 K (.type "NoneType") (.ref gG)=Ya false)(AaA:Y0 K (.ref bW) (.ref gG)=Ya false)(AaB:Y0 K (.ref bH) (.ref gG)=Ya false)(Aad:Y0 K (.type "NoneType") (.ref gC)=Ya false)(Aah:Y0 K (.ref bW) (.ref gC)=Ya false)(Aai:Y0 K (.ref bH) (.ref gC)=Ya false)(Aag:Y0 K (.type "NoneType") (.ref gD)=Ya false)(Aan:Y0 K (.ref bW) (.ref gD)=Ya false)(Aao:Y0 K (.ref bH) (.ref gD)=Ya false)(Aap:Y0 K (.type "NoneType") (.ref gF)=Ya false)(AaC:Y0 K (.ref bW) (.ref gF)=Ya false)(AaD:Y0 K (.ref bH) (.ref gF)=Ya false):
  ∃fd:gM,(∀(s:Yf) (v:Yd),zp s fd ⟨[v],[]⟩ [("script",v)])/\∀base:aq,K.In base->base.Ns Y4 mg->fC l.prog w K mg base pD 5 fa fd ["script"] (yg K 1 ZlC):=by
 have e:=hfa.symm.trans (mJ X G a14.1);cases e;have T:Txt K mg:=⟨trivial,kO X G Abb,kO X G Adm,kO X G Adn,kO X G Adf,kO X G Abn,kO X G Ado,kO X G Abd,kO X G Adp,kO X G Adg,kO X G Adq,kO X G Ads,kO X G Ac4,kO X G Adt,kO X G Ac5,kO X G Adu,⟨_,mJ X G p8⟩,⟨_,mJ X G sW⟩,⟨_,mJ X G Ac6,Abo⟩,⟨_,mJ X G nC⟩⟩;have oR:ClsAt K [66,97,100,82,111,119] bH:=by unfold L3.ClsAt;rw[show(⟨([66,97,100,82,111,119]:List Nat).toArray⟩:aj)= "BadRow" by decide +kernel];exact Tz
 have sX:fQ K bH:=⟨Tt,Tu,Tv,by rw[yV];rfl,AbG,Ug,Uh,Tw⟩;have p7:ClsAt K [78,111,82,111,108,108] bW:=by unfold L3.ClsAt;rw[show(⟨([78,111,82,111,108,108]:List Nat).toArray⟩:aj)= "NoRoll" by decide +kernel];exact TF
 have sY:fQ K bW:=⟨AbH,AbI,AbJ,by rw[Gu];rfl,AbK,Ug,Uh,AbL⟩
 have XO:yL K mg cX gF gD bH gC bW gG gH gJ jq:=⟨mJ X G Aav,mJ X G AbR,mJ X G Abe,mJ X G Tz,mJ X G Aa5,mJ X G TF,mJ X G AbS,mJ X G AcK,mJ X G AcL,Ztf oR Abp (λh Y=>⟨_,Ke Y Abq Abr,Abs⟩) (λh Y=>.own (Y _ _ Th) (Ke Y Ti Tj) Tn (.base)) yV Tq AbB AbC Tr Tw AbD AbE AbF Abx Aby Abz AbA (Binds.all λus hl=>match us,hl with|[_,_],_=>rfl),⟨p7,_,_,_,_,_,_,_,_,_,_,_,_,_,_,_,_,Abt,λh Y=>⟨_,Ke Y Abu Abv,Abw⟩,λh Y=>.own (Y _ _ Th) (Ke Y Ti Tj) Tn (.base)⟩,Zmb oR Tt Tu Tv yV Tq Tr,(iV (P:=λC=>G4 K (.ref C) (.ref cX)=Ya true) oR (PySem.W.Um Tf Tg Td Aac) (iV (P:=λC=>G4 K (.ref C) (.ref cX)=Ya true) p7 (PySem.W.Um Tf Tg Td Aab) jm)),⟨(PySem.W.fX (PySem.W.fL Gu Ls Lw Aak) PySem.W.fY),(iV (P:=λC=>fQ K C/\fZ K (.ref C) [.ref bW]=Ya true) p7 ⟨sY,(PySem.W.GJ (PySem.W.fL Gu Ls Lw Aaw))⟩ jm),(iV (P:=λC=>fQ K C/\fZ K (.ref C) [.ref bW]=Ya false) oR ⟨sX,(PySem.W.fX (PySem.W.fL Gu Ls Lw Aax) PySem.W.fY)⟩ jm)⟩,⟨(PySem.W.fX (PySem.W.fL yV Lq Lr Aal) PySem.W.fY),(iV (P:=λC=>fQ K C/\fZ K (.ref C) [.ref bH]=Ya true) oR ⟨sX,(PySem.W.GJ (PySem.W.fL yV Lq Lr Aay))⟩ jm),(iV (P:=λC=>fQ K C/\fZ K (.ref C) [.ref bH]=Ya false) p7 ⟨sY,(PySem.W.fX (PySem.W.fL yV Lq Lr Aaz) PySem.W.fY)⟩ jm)⟩,⟨(PySem.W.fX (PySem.W.Mq (by decide +kernel) (by first|rfl|decide) Aaa) PySem.W.fY),(iV (P:=λC=>fQ K C/\fZ K (.ref C) [.type "ValueError"]=Ya true) oR ⟨sX,(PySem.W.GJ (PySem.W.Mq (by decide +kernel) (by first|rfl|decide) Aaf))⟩ (iV (P:=λC=>fQ K C/\fZ K (.ref C) [.type "ValueError"]=Ya true) p7 ⟨sY,(PySem.W.GJ (PySem.W.Mq (by decide +kernel) (by first|rfl|decide) Aae))⟩ jm)),jm⟩,⟨(PySem.W.fX (PySem.W.fL L_ Ma Mf Aas) PySem.W.fY),jm,(iV (P:=λC=>fQ K C/\fZ K (.ref C) [.ref gJ]=Ya false) oR ⟨sX,(PySem.W.fX (PySem.W.fL L_ Ma Mf AaZ) PySem.W.fY)⟩ (iV (P:=λC=>fQ K C/\fZ K (.ref C) [.ref gJ]=Ya false) p7 ⟨sY,(PySem.W.fX (PySem.W.fL L_ Ma Mf AaY) PySem.W.fY)⟩ jm))⟩,⟨(PySem.W.fX (PySem.W.fL LK LQ LR Aat) PySem.W.fY),jm,(iV (P:=λC=>fQ K C/\fZ K (.ref C) [.ref gH]=Ya false) oR ⟨sX,(PySem.W.fX (PySem.W.fL LK LQ LR Aa1) PySem.W.fY)⟩ (iV (P:=λC=>fQ K C/\fZ K (.ref C) [.ref gH]=Ya false) p7 ⟨sY,(PySem.W.fX (PySem.W.fL LK LQ LR Aa0) PySem.W.fY)⟩ jm))⟩,⟨(PySem.W.fX (PySem.W.fL Lx Ly Lz Aam) PySem.W.fY),jm,(iV (P:=λC=>fQ K C/\fZ K (.ref C) [.ref gG]=Ya false) oR ⟨sX,(PySem.W.fX (PySem.W.fL Lx Ly Lz AaB) PySem.W.fY)⟩ (iV (P:=λC=>fQ K C/\fZ K (.ref C) [.ref gG]=Ya false) p7 ⟨sY,(PySem.W.fX (PySem.W.fL Lx Ly Lz AaA) PySem.W.fY)⟩ jm))⟩,⟨(PySem.W.fX (PySem.W.fL K9 K_ La Aad) PySem.W.fY),jm,(iV (P:=λC=>fQ K C/\fZ K (.ref C) [.ref gC]=Ya false) oR ⟨sX,(PySem.W.fX (PySem.W.fL K9 K_ La Aai) PySem.W.fY)⟩ (iV (P:=λC=>fQ K C/\fZ K (.ref C) [.ref gC]=Ya false) p7 ⟨sY,(PySem.W.fX (PySem.W.fL K9 K_ La Aah) PySem.W.fY)⟩ jm))⟩,⟨(PySem.W.fX (PySem.W.fL Ld Le Lf Aag) PySem.W.fY),jm,(iV (P:=λC=>fQ K C/\fZ K (.ref C) [.ref gD]=Ya false) oR ⟨sX,(PySem.W.fX (PySem.W.fL Ld Le Lf Aao) PySem.W.fY)⟩ (iV (P:=λC=>fQ K C/\fZ K (.ref C) [.ref gD]=Ya false) p7 ⟨sY,(PySem.W.fX (PySem.W.fL Ld Le Lf Aan) PySem.W.fY)⟩ jm))⟩,⟨(PySem.W.fX (PySem.W.fL Lk Ln Lp Aap) PySem.W.fY),jm,(iV (P:=λC=>fQ K C/\fZ K (.ref C) [.ref gF]=Ya false) oR ⟨sX,(PySem.W.fX (PySem.W.fL Lk Ln Lp AaD) PySem.W.fY)⟩ (iV (P:=λC=>fQ K C/\fZ K (.ref C) [.ref gF]=Ya false) p7 ⟨sY,(PySem.W.fX (PySem.W.fL Lk Ln Lp AaC) PySem.W.fY)⟩ jm))⟩⟩
 have AbM:dD K mg "is_number" Br ["word"]:=nj X G a0.1 a0.2.1 a0.2.2.1 a0.2.2.2 (Binds.all (Cr λ_=>rfl));have AbN:dD K mg "is_within" Bw ["number","many"]:=nj X G a1.1 a1.2.1 a1.2.2.1 a1.2.2.2 (Binds.all (wN λ_ _=>rfl));have AbT:dD K mg "read_row" Bu ["line"]:=nj X G a2.1 a2.2.1 a2.2.2.1 a2.2.2.2 (Binds.all (Cr λ_=>rfl));have Aau:dD K mg "refuse_no_roll" Bv ["rows"]:=nj X G a3.1 a3.2.1 a3.2.2.1 a3.2.2.2 (Binds.all (Cr λ_=>rfl));have AbO:dD K mg "read_roll" Bs ["text"]:=nj X G a4.1 a4.2.1 a4.2.2.1 a4.2.2.2 (Binds.all (Cr λ_=>rfl));have Aa2:dD K mg "_law_cell_at" Bx ["script","k"]:=nj X G a5.1 a5.2.1 a5.2.2.1 a5.2.2.2 (Binds.all (wN λ_ _=>rfl));have Abf:dD K mg "_law_mixed" BJ ["cell","k"]:=nj X G a6.1 a6.2.1 a6.2.2.1 a6.2.2.2 (Binds.all (wN λ_ _=>rfl));have Aa6:dD K mg "_law_number" BK ["cell"]:=nj X G a7.1 a7.2.1 a7.2.2.1 a7.2.2.2 (Binds.all (Cr λ_=>rfl));have AbP:dD K mg "_law_line" BP ["cell","many"]:=nj X G a8.1 a8.2.1 a8.2.2.1 a8.2.2.2 (Binds.all (wN λ_ _=>rfl));have Abg:dD K mg "_law_lines" BR ["script","style"]:=nj X G a9.1 a9.2.1 a9.2.2.1 a9.2.2.2 (Binds.all (wN λ_ _=>rfl));have Aaq:dD K mg "_law_other_word" BW ["word","cell"]:=nj X G a10.1 a10.2.1 a10.2.2.1 a10.2.2.2 (Binds.all (wN λ_ _=>rfl));have Aar:dD K mg "_law_bad_number" BX ["word","cell"]:=nj X G a11.1 a11.2.1 a11.2.2.1 a11.2.2.2 (Binds.all (wN λ_ _=>rfl));have Aa3:dD K mg "_law_spoiled" BZ ["line","cell"]:=nj X G a12.1 a12.2.1 a12.2.2.1 a12.2.2.2 (Binds.all (wN λ_ _=>rfl));have Abh:dD K mg "_law_fault" B_ ["text"]:=nj X G a13.1 a13.2.1 a13.2.2.1 a13.2.2.2 (Binds.all (Cr λ_=>rfl));refine⟨W.fnOf "law" "law" (qx uO) (jx uO) (Zv uO) .none .none .none m14 Ye (.ref g14) .none,λs v=>.of_eq rfl,λbase _ _=>?_⟩;have Li:=ZiD (P:=l.prog) (w:=w) (base:=base) AbM T;have yU:=ZiZ (P:=l.prog) (w:=w) (base:=base) AbN T;have LC:=Zjq (P:=l.prog) (w:=w) (base:=base) AbT T Li yU;have Gr:=Zfw (P:=l.prog) (w:=w) (base:=base) Aau T XO yU;have AdJ:=Gr.fn;have Gs:=Zi8 (P:=l.prog) (w:=w) (base:=base) AbO T XO LC Gr;have AdL:=Gs.fn;have uW:=Zgs (P:=l.prog) (w:=w) (base:=base) Aa2 T;have Lg:=Zht (P:=l.prog) (w:=w) (base:=base) Abf T;have Lb:=Zhg (P:=l.prog) (w:=w) (base:=base) Aa6 T Lg;have Lj:=Zif (P:=l.prog) (w:=w) (base:=base) AbP T Lb;have Lh:=Zhs (P:=l.prog) (w:=w) (base:=base) Abg T Lj;have K4:=Zfa (P:=l.prog) (w:=w) (base:=base) Aaq T;have K5:=Zfe (P:=l.prog) (w:=w) (base:=base) Aar T;have K7:=Zgr (P:=l.prog) (w:=w) (base:=base) Aa3 T K4 K5;have Cu:=Zhm (P:=l.prog) (w:=w) (base:=base) Abh T XO Gs;exact ZrK (Z5 (st:=uO) a14.2.1 a14.2.2.1 a14.2.2.2) T XO uW Lh K7 Cu
noncomputable def kK:Params->u5:=λP=>(nat_lit 2,⟨.none,Ye,.dict #[] 0,#[]⟩)::
 (nat_lit 3,k3 P)::
 (nat_lit 23,⟨.type "dict",Ye,.dict #[kE P "__module__" 196 (.str "stepledger.errors" 187),kE P "__firstlineno__" 200 (.int 2 199),kE P "__static_attributes__" 201 (.ref 22),kE P "__weakref__" 203 (.ref 25),kE P "__doc__" 204 .none] 3,#[]⟩)::
 (nat_lit 24,⟨.type "type",Ye,.cls ⟨"LedgerError",[.type "ValueError"],[.ref 24,.type "ValueError",.type "Exception",.type "BaseException",.type "object"],23,"LedgerError",true,[],[.ref 37,.ref 49,.ref 61,.ref 73,.ref 85,.ref 97,.ref 116,.ref 135],false,Ye,false⟩,#[Ya (.ref 15),Ye,Ya (.str "LedgerError" 189),Ya (.str "LedgerError" 197),Ya (.builtin "ValueError.__new__"),Ya (.bool true)]⟩)::
 (nat_lit 36,⟨.type "dict",Ye,.dict #[kE P "__module__" 214 (.str "stepledger.errors" 187),kE P "__firstlineno__" 218 (.int 4 217),kE P "__static_attributes__" 219 (.ref 35),kE P "__doc__" 220 .none] 2,#[]⟩)::
 (nat_lit 37,⟨.type "type",Ye,.cls ⟨"NoRoll",[.ref 24],[.ref 37,.ref 24,.type "ValueError",.type "Exception",.type "BaseException",.type "object"],36,"NoRoll",true,[],[],false,Ye,false⟩,#[Ya (.ref 28),Ye,Ya (.str "NoRoll" 207),Ya (.str "NoRoll" 215),Ya (.builtin "ValueError.__new__"),Ya (.bool true)]⟩)::
 (nat_lit 48,⟨.type "dict",Ye,.dict #[kE P "__module__" 230 (.str "stepledger.errors" 187),kE P "__firstlineno__" 234 (.int 6 233),kE P "__static_attributes__" 235 (.ref 47),kE P "__doc__" 236 .none] 2,#[]⟩)::
 (nat_lit 49,⟨.type "type",Ye,.cls ⟨"BadCut",[.ref 24],[.ref 49,.ref 24,.type "ValueError",.type "Exception",.type "BaseException",.type "object"],48,"BadCut",true,[],[],false,Ye,false⟩,#[Ya (.ref 40),Ye,Ya (.str "BadCut" 223),Ya (.str "BadCut" 231),Ya (.builtin "ValueError.__new__"),Ya (.bool true)]⟩)::
 (nat_lit 60,⟨.type "dict",Ye,.dict #[kE P "__module__" 246 (.str "stepledger.errors" 187),kE P "__firstlineno__" 250 (.int 8 249),kE P "__static_attributes__" 251 (.ref 59),kE P "__doc__" 252 .none] 2,#[]⟩)::
 (nat_lit 61,⟨.type "type",Ye,.cls ⟨"NoTime",[.ref 24],[.ref 61,.ref 24,.type "ValueError",.type "Exception",.type "BaseException",.type "object"],60,"NoTime",true,[],[],false,Ye,false⟩,#[Ya (.ref 52),Ye,Ya (.str "NoTime" 239),Ya (.str "NoTime" 247),Ya (.builtin "ValueError.__new__"),Ya (.bool true)]⟩)::
 (nat_lit 72,⟨.type "dict",Ye,.dict #[kE P "__module__" 262 (.str "stepledger.errors" 187),kE P "__firstlineno__" 266 (.int 10 265),kE P "__static_attributes__" 267 (.ref 71),kE P "__doc__" 268 .none] 2,#[]⟩)::
 (nat_lit 73,⟨.type "type",Ye,.cls ⟨"NoDispute",[.ref 24],[.ref 73,.ref 24,.type "ValueError",.type "Exception",.type "BaseException",.type "object"],72,"NoDispute",true,[],[],false,Ye,false⟩,#[Ya (.ref 64),Ye,Ya (.str "NoDispute" 255),Ya (.str "NoDispute" 263),Ya (.builtin "ValueError.__new__"),Ya (.bool true)]⟩)::
 (nat_lit 84,⟨.type "dict",Ye,.dict #[kE P "__module__" 278 (.str "stepledger.errors" 187),kE P "__firstlineno__" 282 (.int 12 281),kE P "__static_attributes__" 283 (.ref 83),kE P "__doc__" 284 .none] 2,#[]⟩)::
 (nat_lit 85,⟨.type "type",Ye,.cls ⟨"BadGiven",[.ref 24],[.ref 85,.ref 24,.type "ValueError",.type "Exception",.type "BaseException",.type "object"],84,"BadGiven",true,[],[],false,Ye,false⟩,#[Ya (.ref 76),Ye,Ya (.str "BadGiven" 271),Ya (.str "BadGiven" 279),Ya (.builtin "ValueError.__new__"),Ya (.bool true)]⟩)::
 (nat_lit 96,⟨.type "dict",Ye,.dict #[kE P "__module__" 294 (.str "stepledger.errors" 187),kE P "__firstlineno__" 298 (.int 14 297),kE P "__static_attributes__" 299 (.ref 95),kE P "__doc__" 300 .none] 2,#[]⟩)::
 (nat_lit 97,⟨.type "type",Ye,.cls ⟨"Spent",[.ref 24],[.ref 97,.ref 24,.type "ValueError",.type "Exception",.type "BaseException",.type "object"],96,"Spent",true,[],[],false,Ye,false⟩,#[Ya (.ref 88),Ye,Ya (.str "Spent" 287),Ya (.str "Spent" 295),Ya (.builtin "ValueError.__new__"),Ya (.bool true)]⟩)::
 (nat_lit 112,kC "__init__" "BadRow.__init__" 107 315 18 2 320)::
 (nat_lit 113,kF wI "__init__" "BadRow.__init__" .none kM0 112)::
 (nat_lit 115,⟨.type "dict",Ye,.dict #[kE P "__module__" 310 (.str "stepledger.errors" 187),kE P "__firstlineno__" 314 (.int 16 313),kE P "__init__" 322 (.ref 113),kE P "__static_attributes__" 324 (.ref 114),kE P "__doc__" 325 .none] 2,#[]⟩)::
 (nat_lit 116,⟨.type "type",Ye,.cls ⟨"BadRow",[.ref 24],[.ref 116,.ref 24,.type "ValueError",.type "Exception",.type "BaseException",.type "object"],115,"BadRow",true,[],[],false,Ye,false⟩,#[Ya (.ref 100),Ye,Ya (.str "BadRow" 303),Ya (.str "BadRow" 311),Ya (.builtin "ValueError.__new__"),Ya (.bool true)]⟩)::
 (nat_lit 134,⟨.type "dict",Ye,.dict #[kE P "__module__" 335 (.str "stepledger.errors" 187),kE P "__firstlineno__" 339 (.int 21 338),kE P "__init__" 347 (.ref 132),kE P "__static_attributes__" 349 (.ref 133),kE P "__doc__" 350 .none] 2,#[]⟩)::
 (nat_lit 135,⟨.type "type",Ye,.cls ⟨"Unfit",[.ref 24],[.ref 135,.ref 24,.type "ValueError",.type "Exception",.type "BaseException",.type "object"],134,"Unfit",true,[],[],false,Ye,false⟩,#[Ya (.ref 119),Ye,Ya (.str "Unfit" 328),Ya (.str "Unfit" 336),Ya (.builtin "ValueError.__new__"),Ya (.bool true)]⟩)::
 (nat_lit 138,⟨.type "dict",Ye,.dict #[kE P "put" 361 (.ref 139),kE P "add" 364 (.ref 140),kE P "sub" 368 (.ref 141),kE P "more" 372 (.ref 142),kE P "get" 376 (.ref 143),kE P "set" 379 (.ref 144),kE P "jump" 382 (.ref 145),kE P "when" 384 (.ref 146),kE P "tell" 387 (.ref 147),kE P "halt" 389 (.ref 148)] 10,#[]⟩)::
 (nat_lit 139,⟨.type "tuple",Ye,.seq #[.str "box" 362,.str "number" 363] 0,#[]⟩)::
 (nat_lit 140,⟨.type "tuple",Ye,.seq #[.str "box" 365,.str "box" 366,.str "box" 367] 0,#[]⟩)::
 (nat_lit 141,⟨.type "tuple",Ye,.seq #[.str "box" 369,.str "box" 370,.str "box" 371] 0,#[]⟩)::
 (nat_lit 142,⟨.type "tuple",Ye,.seq #[.str "box" 373,.str "box" 374,.str "box" 375] 0,#[]⟩)::
 (nat_lit 143,⟨.type "tuple",Ye,.seq #[.str "box" 377,.str "box" 378] 0,#[]⟩)::
 (nat_lit 144,⟨.type "tuple",Ye,.seq #[.str "box" 380,.str "box" 381] 0,#[]⟩)::
 (nat_lit 145,⟨.type "tuple",Ye,.seq #[.str "row" 383] 0,#[]⟩)::
 (nat_lit 146,⟨.type "tuple",Ye,.seq #[.str "box" 385,.str "row" 386] 0,#[]⟩)::
 (nat_lit 147,⟨.type "tuple",Ye,.seq #[.str "box" 388] 0,#[]⟩)::
 (nat_lit 148,⟨.type "tuple",Ye,.seq #[] 0,#[]⟩)::
 (nat_lit 152,kV Br 149 401 31 1 404)::
 (nat_lit 153,kG Br Gq 152)::
 (nat_lit 159,kU Bs 154 407 38 1 415)::
 (nat_lit 160,kG Bs Gq 159)::
 (nat_lit 166,kU Bu 161 418 47 1 428)::
 (nat_lit 167,kG Bu Gq 166)::
 (nat_lit 173,kU Bv 168 431 61 1 438)::
 (nat_lit 174,kG Bv Gq 173)::
 (nat_lit 180,kU Bw 175 441 68 2 446)::
 (nat_lit 181,kG Bw Gq 180)::
 (nat_lit 187,kU Bx 182 451 71 2 456)::
 (nat_lit 188,kG Bx sV 187)::
 (nat_lit 194,kU BJ 189 459 75 2 464)::
 (nat_lit 195,kG BJ sV 194)::
 (nat_lit 201,kU BK 196 467 77 1 473)::
 (nat_lit 202,kG BK sV 201)::
 (nat_lit 206,kV BP 203 476 87 2 479)::
 (nat_lit 207,kG BP sV 206)::
 (nat_lit 211,kV BR 208 482 100 2 485)::
 (nat_lit 212,kG BR sV 211)::
 (nat_lit 218,kU BW 213 488 108 2 498)::
 (nat_lit 219,kG BW sV 218)::
 (nat_lit 225,kU BX 220 501 123 2 507)::
 (nat_lit 226,kG BX sV 225)::
 (nat_lit 232,kU BZ 227 510 126 2 523)::
 (nat_lit 233,kG BZ sV 232)::
 (nat_lit 239,kU B_ 234 526 154 1 533)::
 (nat_lit 240,kG B_ sV 239)::
 (nat_lit 246,kU uO 241 536 173 1 549)::
 (nat_lit 247,kG uO sV 246)::[]
open PySem.W
noncomputable abbrev pP:Y3:=PySem.Challenge.pw_stepledger_k03_bad_row
noncomputable def pQ:Y3:=view pP [1,2,3,4,5,6,7,8,9,11,12,13,14,15,16,17,18,19,21,22,23,24,25,26,27,28,29,30]
noncomputable abbrev pL:List aj:=["FORMS"]
noncomputable abbrev pA:List Yq:=[nat_lit 2,nat_lit 3,nat_lit 23,nat_lit 24,nat_lit 36,nat_lit 37,nat_lit 48,nat_lit 49,nat_lit 60,nat_lit 61,nat_lit 72,nat_lit 73,nat_lit 84,nat_lit 85,nat_lit 96,nat_lit 97,nat_lit 112,nat_lit 113,nat_lit 115,nat_lit 116,nat_lit 134,nat_lit 135,nat_lit 138,nat_lit 139,nat_lit 140,nat_lit 141,nat_lit 142,nat_lit 143,nat_lit 144,nat_lit 145,nat_lit 146,nat_lit 147,nat_lit 148,nat_lit 152,nat_lit 153,nat_lit 159,nat_lit 160,nat_lit 166,nat_lit 167,nat_lit 173,nat_lit 174,nat_lit 180,nat_lit 181,nat_lit 187,nat_lit 188,nat_lit 194,nat_lit 195,nat_lit 201,nat_lit 202,nat_lit 206,nat_lit 207,nat_lit 211,nat_lit 212,nat_lit 218,nat_lit 219,nat_lit 225,nat_lit 226,nat_lit 232,nat_lit 233,nat_lit 239,nat_lit 240,nat_lit 246,nat_lit 247]
noncomputable def pX(s:Yf):Bool:=xlAt pQ [] s&&recOk (RowW.records PySem.Challenge.rw_stepledger_k03_bad_row.row.toRowW) s
set_option maxHeartbeats 0
theorem hd0(w:aO):hSt pP pQ pL pX pA kK 2671 ⟨173,0,198,48⟩ (hW w false):=λos=>by kernel_rfl
theorem hd1(w:aO):hSt pP pQ pL pX pA kK 2671 ⟨173,0,198,48⟩ (hW w true):=λos=>by kernel_rfl
set_option maxHeartbeats 400000
end Law
open PySem PySem.W PyProof.Rows
set_option maxRecDepth 100000 in
set_option maxHeartbeats 0 in
theorem PySem.Challenge.cw_stepledger_k03_bad_row_holds : PySem.Challenge.rw_stepledger_k03_bad_row.Holds := by
 w_on
 refine holds_law (by kernel_rfl) λsaid=>?_;refine holds_open (r:=PySem.Challenge.rw_stepledger_k03_bad_row.row) (q:=Law.pQ) (loose:=Law.pL) (Xt:=Law.pX) (XP:=XL Law.pQ []) (YP:=Hook.says (kHook Law.kK Law.pA (λ_=>by kernel_rfl))) (L3.ZrZ (N:=5466) rfl (λ_=>rfl) rfl rfl Law.hd0 Law.hd1) (Hook.of (kHook Law.kK Law.pA (λ_=>by kernel_rfl))) (Hook.keeps _) (λs e=>xl_of s (Yaj.mp e).1) XL.keeps (by rfl) (by rfl) (by rfl) (λs e=>recFacts_of (Yaj.mp e).2) (by rfl) said (by kernel_rfl) ⟨rfl,rfl,rfl,rfl,rfl,by decide +kernel⟩ ?hw ?hc
 case hw=>w_witness2
 k_fill
 refine L3.Zum (l:=PySem.Challenge.rw_stepledger_k03_bad_row) (k:=5) (F:=Law.ZlC) rfl rfl ⟨rfl,by decide,by decide,rfl⟩ (λw h Y=>W.kIn_of Y) ?G Law.law_holds
 case G=>
  intro w mg fa h KX G hmg;refine' Law.Zr0 KX G hmg ?_ ?_ ?_ ?_ ?_ ?_ ?_ ?_ ?_ ?_ ?_ ?_ ?_ ?_ ?_ ?_ ?_ ?_ ?_ ?_ ?_ ?_ ?_ ?_ ?_ ?_ ?_ ?_ ?_ ?_ ?_ ?_ ?_ ?_ ?_ ?_ ?_ ?_ ?_ ?_ ?_ ?_ ?_ ?_ ?_ ?_ ?_ ?_ ?_ ?_ ?_ ?_ ?_ ?_ ?_ ?_ ?_ ?_ ?_ ?_ ?_ ?_ ?_ ?_ ?_ ?_ ?_ ?_ ?_ ?_ ?_ ?_ ?_ ?_ ?_ ?_ ?_ ?_ ?_ ?_ ?_ ?_ ?_ ?_ ?_ ?_ ?_ ?_ ?_ ?_ ?_ ?_ ?_ ?_ ?_ ?_ ?_ ?_ ?_ ?_ ?_ ?_ ?_ ?_ ?_ ?_ ?_ ?_ ?_ ?_ ?_ ?_ ?_ ?_ ?_ ?_ ?_ ?_ ?_ ?_ ?_ ?_ ?_ ?_ ?_ ?_ ?_ ?_ ?_ ?_ ?_ ?_ ?_ ?_ ?_ ?_ ?_
  all_goals try first|k_is|(refine⟨?_,?_,?_,?_⟩<;>k_is)
  all_goals first|rfl|decide +kernel
