import PyProof.Rows.All
import Wide.All
import OpenK.AllK
import Wide.FinOn
import Lean
import PyProof.EqAt
import PyProof.EqKinds
import PyProof.TupleCall
import PySem.Challenge.RW_stepledger_k64_whole_blocks
theorem qA0(_h:0=0:=by rfl):True:=trivial
def qA:=qA0._auto_1
theorem qB0(_h:0=0:=by decide):True:=trivial
def qB:=qB0._auto_1
open Option renaming some->Ya,none->Yj,isSome_iff_exists->Nk,map_eq_some_iff->Nm,map_some->Np,isSome_some->Wu,getD_none->Wv,bind_some->Ww
open PySem.W renaming Frag->Yb,findIn->Y7,nsIn->bG,kia_one->nY,keepIn->fW,emptyDict->tK,codeIn->gm,keepIn->pB,fnOf->nZ,mg_none_of->n6,instObj->u6,mroIn->tL,clsIn->tM,specialIn->zp,fnOf->fL,hideAll_get->Dj,codeIn->zq,mg_of->jF,hasDictIn->HB,plainGet->HD,makesIn->HF,kitx_tuple->Nq,callWith_K->Nr,methodObj->Nt,plainOver->Nu,kitx_list->Nv,kitx_dict->Nx,subIn->HJ,cellsFrom_some->Wx,takerIn->Ny,isFn->HN,takesIn->Nz,readsIn->NK,findCls->NP,hideAll_none->Wy,lookIn->NQ,typeIn->NT,exmOne->NZ,of_hideAll->Wz,kitx_none->WD,kitx_bool->WK,handedIn->WL,kitx_int->WM,kitx_str->WN,hideAll->WP,kitOne->WQ,Frag->wU,WalkO->WR,mg_of->WT
open PySem renaming wpAny_bind->Yc,Value->Yd,Shared->Yf,wpAny_pure->Yn,starEach->Yq,Addr->Ys,mainGlobals->Yu,wpAny->Y8,Program->aZ,model->ao,Around->bj,sizeLine->bF,wpAny_holding->h_,wpAny_mono->fj,World->aU,keywordEach->iB,compareOp->fX,bootBuiltins->jr,backTo->bK,mem_of_lookup->tO,wpAny_loadPart'->u9,wpAny_callSpecial?_slot->wV,wpAny_newObj_type->qZ,attributeBase->mO,wpAny_truthy_bool->tQ,codeAny_call_builtin->wW,Heap->au,wpAny_field->lO,FuncData->jl,wpAny_Call_Name_kw->wX,wpAny_call_entry->u_,backToKw->iC,eval->aF,codeAny_mono->pC,wpAny_pyIter_list->wY,strValues->jT,wpAny_passesOwn->wZ,foldedSetIterable->zr,wpAny_pyIter_enum->zu,codeAny_builtin->w5,wpAny_loadPart_at->zx,sizeLine_eq->q8,wpAny_standAt->vd,Stmt->Ydr,assignEach->pD,wpAny_call->pF,binaryOp->jU,behindInMarks->w6,wpAny_letOwnedTupleGo_enum->N5,codeAny->jt,checkBuiltinCall->Dk,excClassObj->vf,wpAny_comprehension_free->N6,wpAny_execs_nil->Dl,letOwnedTupleGo->Dm,wpAny_pyIter_tuple->HS,strLen_append->zy,plainObj_wpAny_Assign_Attribute->WW,sliceBounds->xg,slicePicked->xj,wpAny_seqItems->Dn,wpAny_setField->Dp,wpAny_tryCatch->Dq,swapsWith->tR,plainId_quiet->Dr,rawInt->jV,getItem->pG,intText?->HW,wpAny_sequenceKey->N7,typeIs_str->zA,call_meets->zB,wpAny_pyNext_enum_itemD->WX,wpAny_point->Ds,noFill_tuple_add->N8,cLine->iR,codeAny_compStart_list->WY,wpAny_storeName_local->W0,Result->n8,wpAny_typeOf->HX,codeAny_of_tree->N_,weight_type_call_type->W3,wpAny_updateSeq->Oa,wpAny_newFunctionEnv->W4,unbindBehindTheSuite->W5,assign->pH,wpAny_loadPart->Ob,newFunctionEnv->Oc,subscripted->HY,callerA->vg,relabel->vh,wpAny_of_eq->H_,dictGet->vm,wpAny_letGo->Ia,wpAny_isSubtype_exc->W6,seq_tuple_add->Od,noteFrame->Dt,wpAny_attempt->Oe,callWith->zE,wpAny_missed_other->W7,wpAny_assign_Name->W8,wpAny_rule->Ib,wpAny_dictEntries->W9,Within->Og,concat_meets->Oh,wpAny_pyHash_int->W_,wpAny_pyHash_str->Xa,wpAny_execs_cons->Xb,wpAny_lookBehind->Xc,pastItsLine_dict->Xd,wpAny_isInstance->Xe,compEnvC->Du,pyNext->vo,BindsTo->zF,valueAt->zG,wpAny_specialOf->Xf,wpAny_stack_any->Xg,wpAny_dictEpoch->Xh,getAttrByItsOwn->Xi,builtinsNs->Oi,wpAny_Name->Oj,typeLookup->Ol,call->Om,IsEnum->xq,isInstance->Oo,spliced->Dv,getAttr->Dw,contains->Ie,PassesOwn->Oq,pyIter->zH,cellsFrom->Ot,seqIndex?->Ou,scanBound->Ov,standAt->Ig,unaryOp->Ih,setAttr->Ii,evalAll->Ij,bindL->vp,bindC->vy,leaving->Ik,atKey->vz,Str->aj,Obj->aD,Env->cH,Sem->jW,Pos->aP,Tok->eG
open List renaming mem_cons_of_mem->Ye,mem_cons_self->Yg,getElem?_eq_some_iff->Yh,length_cons->Yk,length_append->Yl,mem_cons->Ym,mem_singleton->Yr,size_toArray->Yt,map_cons->Yv,length_map->Yw,append_assoc->Yy,getElem?_set_ne->Yz,replicate->Y2,getElem?_append_left->Y3,mem_append_right->Y4,getElem?_eq_getElem->jG,all_eq_true->gO,getElem?_set_self->jX,not_mem_nil->ig,mem_append->gP,length_singleton->lQ,lookup_cons->iT,append_nil->iD,mem_append_left->n_,all_cons->iU,getElem?_map->ou,getElem?_take_of_lt->vA,getElem?_append_right->xr,nil_append->mQ,any_cons->jY,range->iV,drop_eq_getElem_cons->zJ,map_append->pI,mem_map->lR,take_of_length_le->zK,getElem?_eq_none->zM,Nodup->jZ,mem_flatMap->vB,mem_of_getElem?->zN,foldl_cons->vC,map_eq_nil_iff->zO,length_take->xu,getElem_mem->xx,cons_append->xF,set_cons_succ->zP,set_cons_zero->zQ,nodup_cons->xG,ext_getElem?->zR,flatten_cons->zT,getElem?_replicate->Il,getElem?_cons_succ->Im,getElem?_cons_zero->Io,eq_nil_of_length_eq_zero->Ow,drop_eq_nil_of_le->Ip,mem_filterMap->Dy,length->tU,map_nil->vD,find?_cons->zU,reverse_cons->Dz,getElem?_of_mem->Ir,mem_map_of_mem->Yes,length_reverse->Iu,length_set->DG,length_nil->DK,lookup->xH,eraseIdxIfInBounds_toArray->Xj,drop_zero->DN,dropLast_eq_take->Ox,map_map->zV,drop_length->Iv,reverse_reverse->Oz,filterMap_cons->OD,length_pos_iff->OJ,getD_eq_getElem?_getD->Xk,set_set->DP,contains_cons->O1,nodup_append->O2,length_range->O4,length_filterMap_le->Xl,prefix_iff_eq_take->Xm,getElem?_set_self'->Xn,length_eq_zero_iff->Xo,mem_reverse->O5,range_succ_eq_map->Xp,of_mem_zip->O6,length_replicate->Xq,getElem?_toArray->Xr,isPrefixOf->O7,length_dropLast->Xu,mem_range->O8,take_left->O9,replicate_succ->Xv,map_congr_left->Xw,map_inj_right->Xx,take_sublist->Xy,mem_range'_1->Xz,all_nil->O_,getElem_inj->XC,length_drop->XD,mem_flatten->XF,reverse_inj->XH,mem_filter->XJ,drop_left->XM,tail_cons->XQ
open PySem.Heap renaming get?_push_of_some->Yi,lt_size->Y0,get?_push_size->Y1,get?_update_other->mR,get?_update_self->xJ,size_push->vG,get?_none_of_le->Iw,SameBut->DQ,get?_push_at->Pa,get?_update_ne->XR
open Nat renaming le_refl->Yo,le_trans->Yp,lt_of_lt_of_le->Y6,le_antisymm->gn,ne_of_lt->dM,le_of_not_lt->iW,zero_le->d8,sub_add_cancel->j4,lt_of_le_of_lt->j5,le_add_right->lU,lt_trans->j6,eq_of_beq_eq_true->zW,add_comm->q9,beq->gQ,min_eq_left->xK,zero_add->tV,le_of_eq->tW,lt_irrefl->vH,succ_le_succ->zX,add_assoc->xM,add_le_add_right->Iz,lt_succ_self->DR,le_succ->vI,ne_of_gt->xN,lt_of_not_le->IK,lt_add_right->IV,le_succ_of_le->Pb,toDigits_of_lt_base->XS,add_sub_cancel_left->XX,min_eq_right->Pg,min_le_right->Ph,succ_ne_self->Pj,ble->tX,le_of_ble_eq_true->X4,sub_eq_zero_of_le->X5,toDigits->IW,strongRecOn->Pk,le_add_left->Pn,sub_le->DW,mul_div_le->Pq,mul_le_mul_left->X6,lt_succ_of_le->X7,le_of_lt->Pr,add_zero->Pu,log2_le_self->X8,zero_lt_one->X_,toList_repr->YB,add_le_add->YC
open Classical renaming propDecidable->Yx
open Bool renaming and_eq_true->Y5,false_ne_true->oA,and_eq_true_iff->vJ,false_eq_true->DX,beq_eq_decide_eq->I_,and_false->DY,or_false->Ja,and_true->Jb,eq_iff_iff->Px,or_eq_true->Py,false_and->Pz,not_eq_true->YD,false_or->YF
open Option.some renaming inj->Y9,injEq->YG
open False renaming elim->dR
open List.cons renaming inj->iY,injEq->YH
open Ne renaming symm->bT
open PySem.Str renaming ofString->lV,length->pJ,empty->zY
open PyProof.Rows renaming slot_tuple_getitem->Jc,callWith_type1->PB,slot_tupleiter_next->Jd,callWith_builtin1->YJ,signs_ofString->YK,envOfC->j7,evalArgs_kwB->YL,kindOf->lW,AllBare->q_,subscriptTail_builtinR->YM,entry_tupleiter_next->YQ,entry_tuple_getitem->YS,args_tupleiter_next->YT,args_tuple_getitem->YW,subscriptTail->PJ,Subscript_->PL
open PyProof.Rows.KTD renaming datumAt->mU,TabOf->pK,tab_of_look->YX
open PySem.Builtin.Str renaming occurrences->D_,strSliceIndices->Je,partsBetween->YZ,strKind->Y_
open PySem.NumText renaming digitsVal->Ea
open PyProof.Rows.F renaming plain_set_update_loop->PN,entry_set_update_loop->ZC
open Int renaming toNat_of_nonneg->zZ,toNat_natCast->z6,natCast_nonneg->Eb,self_le_toNat->Jf,add_zero->z7,ofNat_le->Ec,zero_add->Ed,natAbs_natCast->PQ,lt_mul_ediv_self_add->ZD,le_of_eq->Jg,natCast_add->PX,mul_zero->Jh,ofNat_lt->Ji,not_le->Jj,le_of_lt->P0,sub_zero->P_,min_eq_left->ZF,mul_add->Qa,natCast_mul->ZG,add_le_add->ZJ,not_lt->Qc
open Array renaming getElem?_eq_some_iff->Jk,getElem?_setIfInBounds_ne->ZK,toList->z8,getElem?_toList->Qd,length_toList->Qe,mem_of_getElem?->ZL,mem_toList_iff->ZM,append_assoc->ZP
open PySem.F renaming plain_max_loop->xO,slot_enumerate_next->Jl,args_tuple_add_2->Qf,entry_tuple_add->Qg,slot_tuple_add->Qh,plainAttrs_str->Qi,slot_dict_get->Qj,slot_dict_contains->ZQ,excBase_ValueError->ZR,args_str_split_2->Qk,slot_dict_getitem->ZS,entry_str_split->Ql,plainAttrs_list->ZV,args_enumerate_next_1->ZW,args_dict_get_3->ZX,slot_str_split->Qm,entry_max_loop->Qn,entry_enumerate_next->ZZ,entry_dict_get->Z0,entry_enumerate_new->Z1,called_enumerate->Z2,entry_list_pop->Z3,slot_list_pop->Z4
open PySem.Builtin.Slice renaming slicePlaces->Jm,sliceAdjust->Qo,sliceApplied->Z5
open Decidable renaming byContradiction->Jo
open PySem.Builtin.SmallTypes renaming nextOf->Jp
open PySem.Around renaming under_plainId->Ef,under_plain->Z6,under->Qp
open PySem.Builtin.Tuple renaming tupleExact->Jq,tupleItemsOf->Z7
open PySem.Obj renaming data_mapFields->Eg,mapFields->xP,isFreed_of_fields->Qq,cls_mapFields->Z8
open PySem.SeqAt renaming EqAt->rm,in_listAt->Z9
open PySem.SeqAt.EqAt renaming str_int->Jr,int_str->Qs,same->Qt,none_bool->Z_,bool_none->Yi9,bool_bool->Yja,none_int->Yjs,none_str->Yjt,bool_int->Yju,bool_str->Yjv,int_none->Yjw,int_bool->Yjx,str_none->Yjy,str_bool->Yjz,int_int->Ykj,str_str->Ykk
open PySem.Code renaming quiet_builtin->Js,isFrame->Qu
open PySem.Calls renaming callWith_builtin->Qv,evalArgs_plain->Qw,Name_function_global->Yga,spliced_cons->Qx,spliced_nil->Yky
open PySem.SeqAt.RcNeAt renaming lists_lengths->Ygd
open ToString renaming toString->vK
open OfNat renaming ofNat->Eh
open Eq renaming trans->vL
open PySem.Heap.SameBut renaming update->Yj6
open PySem.EntryCells renaming newEntry->Yj8
open PySem.Builtin.Dict renaming missed->Yka
open PySem.Heap.Ns1 renaming of_empty->Ykv
open PySem.SeqAt.RcAt renaming tuples->Yk0
open PySem.Walks renaming list->Jt
open Nat.succ renaming inj->Qy
open PySem.Txt renaming split->Ymc,startswith->Ymo
open PySem.PassesOwn renaming never->Ymd
open Char renaming toNat->Qz
open PySem.Paired renaming length->Ym1
open Max renaming max->mV
open Min renaming min->ir
namespace _L3
set_option compiler.extract_closed false
set_option genSizeOf false in
set_option genInjectivity false in
inductive AE where
 |v (i:Nat)
 |k (n:Nat)
 |a (x y:AE)
 |m (n:Nat) (x:AE)
noncomputable def Ju:List Nat->Nat->Nat
 |[],_=>0|x::_,0=>x|_::l,n+1=>Ju l n
noncomputable def AE.ev(c:List Nat):AE->Nat
 | .v i=>Ju c i|.k n=>n|.a x y=>x.ev c+y.ev c|.m n x=>n*x.ev c
noncomputable def aL:List Nat->List Nat->List Nat
 |[],r=>r|x::l,[]=>x::l|x::l,y::r=>(x+y)::aL l r
noncomputable def sL(n:Nat):List Nat->List Nat
 |[]=>[]|x::l=>(n*x)::sL n l
noncomputable def uL:Nat->List Nat
 |0=>[1]|n+1=>0::uL n
noncomputable def AE.li:AE->List Nat
 | .v i=>0::uL i|.k n=>[n]|.a x y=>aL x.li y.li|.m n x=>sL n x.li
noncomputable def dt:List Nat->List Nat->Nat
 |x::c,y::l=>x*y+dt c l|[],_=>0|_,[]=>0
noncomputable def xQ:List Nat->List Nat->Bool
 |[],_=>true|x::l,[]=>tX x 0&&xQ l []|x::l,y::r=>tX x y&&xQ l r
theorem oE:∀c,dt c []=0
 |[]=>rfl|_::_=>rfl
theorem rn:∀c l r,dt c (aL l r)=dt c l+dt c r
 |c,[],r=>by rw[oE,tV];rfl|c,x::l,[]=>by rw[oE];rfl|[],x::l,y::r=>rfl|z::c,x::l,y::r=>by show z*(x+y)+dt c (aL l r)=_;rw[rn c l r,Nat.mul_add];exact Nat.add_add_add_comm _ _ _ _
theorem Ei(n:Nat):∀c l,dt c (sL n l)=n*dt c l
 |c,[]=>by rw[oE];exact oE c|[],x::l=>rfl|z::c,x::l=>by show z*(n*x)+dt c (sL n l)=n*(z*x+dt c l);rw[Ei n c l,Nat.mul_add,Nat.mul_left_comm]
theorem Ztv:∀c i,dt c (uL i)=Ju c i
 |[],0=>rfl|[],_+1=>rfl|x::c,0=>by show x*1+dt c []=x;rw[oE,Nat.mul_one];rfl|x::c,n+1=>by show x*0+dt c (uL n)=Ju c n;rw[Ztv c n,Nat.mul_zero,tV]
theorem z9:∀c l r,xQ l r=true->dt c l<=dt c r
 |c,[],r,_=>by rw[oE];exact d8 _|[],x::l,r,_=>d8 _|z::c,x::l,[],h=>by have h:=(Y5 _ _).mp h;have e:x=0:=Nat.le_zero.1 (X4 h.1);have i:=z9 c l [] h.2;rw[oE]at i;show z*x+dt c l<=0;rw[e,Nat.le_zero.1 i];exact Yo 0|z::c,x::l,y::r,h=>
  have h:=(Y5 _ _).mp h
  YC (X6 z (X4 h.1)) (z9 c l r h.2)
theorem AE.d7(c:List Nat):∀e:AE,dt (1::c) e.li=e.ev c
 | .v i=>(tV _).trans (Ztv c i)|.k n=>by show 1*n+dt c []=n;rw[oE,Nat.one_mul];rfl|.a x y=>(rn _ _ _).trans (congr (congrArg _ (x.d7 c)) (y.d7 c))|.m n x=>(Ei n _ _).trans (congrArg _ (x.d7 c))
noncomputable def bI:Nat->Nat->AE×Nat
 |0,s=>(.k 0,s)|f+1,s=>bif tX (s % 16) 9 then(.v (s % 16),s / 16)else bif gQ (s % 16) 10 then(.k 1,s / 16)
  else bif gQ (s % 16) 11 then(.k (s / 256 % 16^(s / 16 % 16)),s / 256 / 16^(s / 16 % 16))
  else bif gQ (s % 16) 12 then(.a (bI f (s / 16)).1 (bI f (bI f (s / 16)).2).1,(bI f (bI f (s / 16)).2).2)
  else bif gQ (s % 16) 13 then(.m (s / 16 % 256) (bI f (s / 4096)).1,(bI f (s / 4096)).2)
  else(.k 0,s / 16)
noncomputable def Ej:Nat->Nat->Nat->Prop
 |0,x,y=>x<=y|1,x,y=>x<y|2,x,y=>x=y|3,x,y=>x=y
 |4,x,y=>¬x<=y|5,x,y=>¬x<y|_,_,_=>False
noncomputable def QB:Nat->AE->AE->List Nat
 |0,x,_=>x.li|1,x,_=>aL [1] x.li|2,x,_=>x.li|4,_,y=>aL [1] y.li
 |_,_,y=>y.li
noncomputable def Ek:Nat->AE->AE->List Nat
 |0,_,y=>y.li|1,_,y=>y.li|2,_,y=>y.li|_,x,_=>x.li
noncomputable def rA(c:List Nat):Nat->Nat->Prop
 |0,s=>Ej (s % 16) ((bI 9 (s / 16)).1.ev c) ((bI 9 (bI 9 (s / 16)).2).1.ev c)|n+1,s=>Ej (s / 16 % 16) ((bI 9 (s / 256)).1.ev c) ((bI 9 (bI 9 (s / 256)).2).1.ev c)->rA c n (bI 9 (bI 9 (s / 256)).2).2
noncomputable def gN:Nat->AE->AE->List Nat->List Nat->Bool
 |0,x,y,L,R=>xQ (aL R x.li) (aL L y.li)|1,x,y,L,R=>xQ (aL [1] (aL R x.li)) (aL L y.li)|_,_,_,L,R=>xQ (aL [1] R) L
noncomputable def rC:Nat->Nat->List Nat->List Nat->Bool
 |0,s,L,R=>gN (s % 16) (bI 9 (s / 16)).1 (bI 9 (bI 9 (s / 16)).2).1 L R|n+1,s,L,R=>rC n (bI 9 (bI 9 (s / 256)).2).2 (aL L (sL (s % 16) (QB (s / 16 % 16) (bI 9 (s / 256)).1 (bI 9 (bI 9 (s / 256)).2).1))) (aL R (sL (s % 16) (Ek (s / 16 % 16) (bI 9 (s / 256)).1 (bI 9 (bI 9 (s / 256)).2).1)))
theorem El(c l:List Nat):dt (1::c) (aL [1] l)=dt (1::c) l+1:=by rw[rn];show 1*1+dt c []+_=_;rw[oE];exact q9 _ _
theorem Zqm(c:List Nat)(x y:AE):∀r,Ej r (x.ev c) (y.ev c)->dt (1::c) (QB r x y)<=dt (1::c) (Ek r x y)
 |0,h=>by show dt _ x.li<=dt _ y.li;rw[x.d7,y.d7];exact h|1,h=>by show dt _ (aL [1] x.li)<=dt _ y.li;rw[El,x.d7,y.d7];exact h|2,h=>by show dt _ x.li<=dt _ y.li;rw[x.d7,y.d7];exact tW h|3,h=>by show dt _ y.li<=dt _ x.li;rw[x.d7,y.d7];exact tW h.symm
 |4,h=>by show dt _ (aL [1] y.li)<=dt _ x.li;rw[El,x.d7,y.d7];exact IK h|5,h=>by show dt _ y.li<=dt _ x.li;rw[x.d7,y.d7];exact iW h|_+6,h=>h.elim
theorem Zxg(c:List Nat)(x y:AE)(L R:List Nat)(h:dt (1::c) L<=dt (1::c) R):∀r,gN r x y L R=true->Ej r (x.ev c) (y.ev c)
 |0,k=>by have e:=z9 (1::c) _ _ k;rw[rn,rn,x.d7,y.d7]at e;exact Nat.le_of_add_le_add_left (Yp e (Iz h _))|1,k=>by have e:=z9 (1::c) _ _ k;rw[El,rn,rn,x.d7,y.d7]at e;exact Nat.lt_of_add_lt_add_left (Yp e (Iz h _))|r+2,k=>by have e:=z9 (1::c) _ _ k;rw[El]at e;exact absurd (Yp e h) (Nat.not_succ_le_self _)
theorem arN(c:List Nat):∀(n s:Nat) (L R:List Nat),dt (1::c) L<=dt (1::c) R->rC n s L R=true->rA c n s
 |0,s,L,R,h,k=>Zxg c _ _ L R h _ k|n+1,s,L,R,h,k=>λg=>arN c n _ _ _ (by rw[rn,rn,Ei,Ei];exact YC h (X6 _ (Zqm c _ _ _ g))) k
end _L3
theorem lN(c:List Nat)(n s:Nat)(h:_L3.rC n s [] []=true):_L3.rA c n s:=_L3.arN c n s [] [] (Yo _) h
theorem jH(a b:Nat):a<=a-b+b:=Nat.le_add_of_sub_le (Yo _)
theorem T1:true=true:=rfl
theorem lA{a:Nat}(n s:Nat)(y:_L3.rC n s [] []=true):_L3.rA [a] n s:=lN _ n s y
theorem lB{a b:Nat}(n s:Nat)(y:_L3.rC n s [] []=true):_L3.rA [a,b] n s:=lN _ n s y
theorem lC{a b c:Nat}(n s:Nat)(y:_L3.rC n s [] []=true):_L3.rA [a,b,c] n s:=lN _ n s y
theorem lD{a b c d:Nat}(n s:Nat)(y:_L3.rC n s [] []=true):_L3.rA [a,b,c,d] n s:=lN _ n s y
theorem lE{a b c d e:Nat}(n s:Nat)(y:_L3.rC n s [] []=true):_L3.rA [a,b,c,d,e] n s:=lN _ n s y
theorem lG{a b c d e f g:Nat}(n s:Nat)(y:_L3.rC n s [] []=true):_L3.rA [a,b,c,d,e,f,g] n s:=lN _ n s y
theorem lI{a b c d e f g h i:Nat}(n s:Nat)(y:_L3.rC n s [] []=true):_L3.rA [a,b,c,d,e,f,g,h,i] n s:=lN _ n s y
theorem clA(w:Int):mV w 0=(w.toNat:Int):=(Int.ofNat_toNat w).symm
theorem clB(v:Int)(n:Nat)(h:¬v<0):ir v (n:Int)=((ir v.toNat n:Nat):Int):=by
 obtain⟨k,rfl⟩:=Int.eq_ofNat_of_zero_le (Qc.1 h);rcases Nat.le_total k n with z|z
 .rw[ZF (Ec.2 z)];exact congrArg Int.ofNat (xK z).symm
 .rw[Int.min_eq_right (Ec.2 z)];exact congrArg Int.ofNat (Pg z).symm
theorem QC(v:Int)(n:Nat)(h:v<0):mV 0 (ir (v+(n:Int)) (n:Int))=((v+(n:Int)).toNat:Int):=by rw[ZF (P0 (Int.lt_of_lt_of_le (Int.add_lt_add_right h _) (Jg (Ed _)))),Int.max_comm];exact clA _
theorem QD(v:Int)(n:Nat)(h:¬v<0):mV 0 (ir v (n:Int))=((ir v.toNat n:Nat):Int):=by rw[clB v n h];exact Int.max_eq_right (Eb _)
namespace _L3
set_option genSizeOf false in
set_option genInjectivity false in
inductive AI where
 |v (i:Nat)
 |k (n:Nat)
 |c (e:AE)
 |a (x y:AI)
 |s (x y:AI)
 |g (x:AI)
 |m (n:Nat) (x:AI)
noncomputable def Em:List Int->Nat->Int
 |[],_=>0|x::_,0=>x|_::l,n+1=>Em l n
noncomputable def AI.ev(c:List Nat)(d:List Int):AI->Int
 | .v i=>Em d i|.k n=>Int.ofNat n|.c e=>((e.ev c:Nat):Int)|.a x y=>x.ev c d+y.ev c d
 | .s x y=>x.ev c d-y.ev c d|.g x=>-x.ev c d|.m n x=>Int.ofNat n*x.ev c d
noncomputable def pL(u w:List Nat×List Nat):List Nat×List Nat:=(aL u.1 w.1,aL u.2 w.2)
noncomputable def AI.li:AI->Bool->List Nat×List Nat
 | .v i,b=>bif b then([],uL i)else([],[])|.k n,b=>bif b then([n],[])else([],[])|.c e,b=>bif b then(e.li,[])else([],[])|.a x y,b=>pL (x.li b) (y.li b)
 | .s x y,b=>pL (x.li b) (y.li (!b))|.g x,b=>x.li (!b)|.m n x,b=>(sL n (x.li b).1,sL n (x.li b).2)
noncomputable def dU:List Int->List Nat->Int
 |x::c,y::l=>x*(y:Int)+dU c l|[],_=>0|_,[]=>0
noncomputable def dI(c:List Nat)(d:List Int)(u:List Nat×List Nat):Int:=((dt (1::c) u.1:Nat):Int)+dU d u.2
theorem Ztp(p q r s:Int):p+q+(r+s)=p+r+(q+s):=by omega
theorem oF:∀c,dU c []=0
 |[]=>rfl|_::_=>rfl
theorem Zq3:∀c l r,dU c (aL l r)=dU c l+dU c r
 |c,[],r=>by rw[oF,Ed];rfl|c,x::l,[]=>by rw[oF,z7];rfl|[],x::l,y::r=>rfl|z::c,x::l,y::r=>by show z*((x+y:Nat):Int)+dU c (aL l r)=(z*x+dU c l)+(z*y+dU c r);rw[Zq3 c l r,PX,Qa];exact Ztp _ _ _ _
theorem Zrg(n:Nat):∀c l,dU c (sL n l)=Int.ofNat n*dU c l
 |c,[]=>by rw[oF,Jh];exact oF c|[],x::l=>(Jh _).symm|z::c,x::l=>by show z*((n*x:Nat):Int)+dU c (sL n l)=Int.ofNat n*(z*x+dU c l);rw[Zrg n c l,Qa,ZG,Int.mul_left_comm];rfl
theorem ZqH:∀c i,dU c (uL i)=Em c i
 |[],0=>rfl|[],_+1=>rfl|x::c,0=>by show x*1+dU c []=x;rw[oF,Int.mul_one,z7]|x::c,n+1=>by show x*0+dU c (uL n)=Em c n;rw[ZqH c n,Jh,Ed]
section
variable (c:List Nat) (d:List Int)
theorem jJ(u w:List Nat×List Nat):dI c d (pL u w)=dI c d u+dI c d w:=by show((dt (1::c) (aL u.1 w.1):Nat):Int)+dU d (aL u.2 w.2)=_;rw[rn,Zq3,PX];exact Ztp _ _ _ _
theorem Jv(n:Nat)(u:List Nat×List Nat):dI c d (sL n u.1,sL n u.2)=Int.ofNat n*dI c d u:=by show((dt (1::c) (sL n u.1):Nat):Int)+dU d (sL n u.2)=_;rw[Ei,Zrg,ZG];exact(Qa _ _ _).symm
theorem QF:dI c d ([],[])=0:=by show((dt (1::c) []:Nat):Int)+dU d []=0;rw[oE,oF];rfl
theorem ZtR(p q r s:Int):p-q+(r-s)=p+r-(q+s):=by omega
theorem ZpD(p q r s:Int):p-q-(r-s)=p+s-(q+r):=by omega
theorem AI.d7:∀e:AI,e.ev c d=dI c d (e.li true)-dI c d (e.li false)
 | .v i=>by show Em d i=dI c d ([],uL i)-dI c d ([],[]);rw[QF,P_];show _=((dt (1::c) []:Nat):Int)+dU d (uL i);rw[oE,ZqH];exact(Ed _).symm|.k n=>by show Int.ofNat n=dI c d ([n],[])-dI c d ([],[]);rw[QF,P_];show _=((dt (1::c) [n]:Nat):Int)+dU d [];rw[oF,z7];show _=((1*n+dt c []:Nat):Int);rw[oE,Nat.one_mul];rfl|.c e=>by show((e.ev c:Nat):Int)=dI c d (e.li,[])-dI c d ([],[]);rw[QF,P_];show _=((dt (1::c) e.li:Nat):Int)+dU d [];rw[oF,z7,e.d7]|.a x y=>by show x.ev c d+y.ev c d=dI c d (pL (x.li true) (y.li true))-dI c d (pL (x.li false) (y.li false));rw[jJ,jJ,x.d7,y.d7];exact ZtR _ _ _ _
 | .s x y=>by show x.ev c d-y.ev c d=dI c d (pL (x.li true) (y.li false))-dI c d (pL (x.li false) (y.li true));rw[jJ,jJ,x.d7,y.d7];exact ZpD _ _ _ _|.g x=>by show -x.ev c d=dI c d (x.li false)-dI c d (x.li true);rw[x.d7];exact Int.neg_sub _ _|.m n x=>by show Int.ofNat n*x.ev c d=dI c d (sL n (x.li true).1,sL n (x.li true).2)-dI c d (sL n (x.li false).1,sL n (x.li false).2);rw[Jv,Jv,x.d7];exact Int.mul_sub _ _ _
noncomputable def cI(x y:AI):List Nat×List Nat:=pL (x.li true) (y.li false)
noncomputable def xR(u:List Nat×List Nat):List Nat×List Nat:=(aL [1] u.1,u.2)
theorem Jw(u:List Nat×List Nat):dI c d (xR u)=dI c d u+1:=by show((dt (1::c) (aL [1] u.1):Nat):Int)+dU d u.2=((dt (1::c) u.1:Nat):Int)+dU d u.2+1;rw[El,PX,Int.add_right_comm];rfl
theorem Jx(x y:AI):dI c d (cI x y)-dI c d (cI y x)=x.ev c d-y.ev c d:=by unfold cI;rw[jJ,jJ,x.d7,y.d7,ZpD,Int.add_comm (dI c d (y.li true))]
theorem Jy{x y:AI}(h:x.ev c d<=y.ev c d):dI c d (cI x y)<=dI c d (cI y x):=by have:=Jx c d x y;omega
theorem Zxw{x y:AI}(h:dI c d (cI x y)<=dI c d (cI y x)):x.ev c d<=y.ev c d:=by have:=Jx c d x y;omega
noncomputable def Zwk:Nat->Int->Int->Prop
 |0,x,y=>x<=y|1,x,y=>x<y|2,x,y=>x=y|3,x,y=>x=y
 |4,x,y=>¬x<=y|5,x,y=>¬x<y|_,_,_=>False
noncomputable def loI:Nat->AI->AI->List Nat×List Nat
 |0,x,y=>cI x y|1,x,y=>xR (cI x y)|2,x,y=>cI x y|4,x,y=>xR (cI y x)
 |_,x,y=>cI y x
noncomputable def hiI:Nat->AI->AI->List Nat×List Nat
 |0,x,y=>cI y x|1,x,y=>cI y x|2,x,y=>cI y x|_,x,y=>cI x y
theorem Ztl{x y:AI}(h:x.ev c d<y.ev c d):dI c d (xR (cI x y))<=dI c d (cI y x):=by have:=Jx c d x y;rw[Jw];omega
theorem ZtZ(x y:AI):∀r,Zwk r (x.ev c d) (y.ev c d)->dI c d (loI r x y)<=dI c d (hiI r x y)
 |0,h=>Jy c d h|1,h=>Ztl c d h|2,h=>Jy c d (Jg h)|3,h=>Jy c d (Jg h.symm)
 |4,h=>Ztl c d (Jj.1 h)|5,h=>Jy c d (Qc.1 h)|_+6,h=>h.elim
end
noncomputable def bZ:Nat->Nat->AI×Nat
 |0,s=>(.k 0,s)|f+1,s=>bif tX (s % 16) 7 then(.v (s % 16),s / 16)else bif gQ (s % 16) 8 then(.c (bI 9 (s / 16)).1,(bI 9 (s / 16)).2)
  else bif gQ (s % 16) 9 then(.g (bZ f (s / 16)).1,(bZ f (s / 16)).2)else bif gQ (s % 16) 10 then(.k 1,s / 16)
  else bif gQ (s % 16) 11 then(.k (s / 256 % 16^(s / 16 % 16)),s / 256 / 16^(s / 16 % 16))
  else bif gQ (s % 16) 12 then(.a (bZ f (s / 16)).1 (bZ f (bZ f (s / 16)).2).1,(bZ f (bZ f (s / 16)).2).2)
  else bif gQ (s % 16) 13 then(.m (s / 16 % 256) (bZ f (s / 4096)).1,(bZ f (s / 4096)).2)
  else bif gQ (s % 16) 14 then(.k 0,s / 16)else(.s (bZ f (s / 16)).1 (bZ f (bZ f (s / 16)).2).1,(bZ f (bZ f (s / 16)).2).2)
def hP(c:List Nat)(d:List Int)(r s:Nat):Prop:=bif tX 8 r then Zwk (r-8) ((bZ 9 s).1.ev c d) ((bZ 9 (bZ 9 s).2).1.ev c d)else Ej r ((bI 9 s).1.ev c) ((bI 9 (bI 9 s).2).1.ev c)
noncomputable def hR(r s:Nat):Nat:=bif tX 8 r then(bZ 9 (bZ 9 s).2).2 else(bI 9 (bI 9 s).2).2
noncomputable def hL(r s:Nat):List Nat×List Nat:=bif tX 8 r then loI (r-8) (bZ 9 s).1 (bZ 9 (bZ 9 s).2).1 else(QB r (bI 9 s).1 (bI 9 (bI 9 s).2).1,[])
noncomputable def hH(r s:Nat):List Nat×List Nat:=bif tX 8 r then hiI (r-8) (bZ 9 s).1 (bZ 9 (bZ 9 s).2).1 else(Ek r (bI 9 s).1 (bI 9 (bI 9 s).2).1,[])
theorem ZwN(c:List Nat)(d:List Int)(r s:Nat)(h:hP c d r s):dI c d (hL r s)<=dI c d (hH r s):=by
 unfold hP at h;unfold hL hH;cases e:tX 8 r<;>rw[e]at h
 .exact Int.add_le_add_right (Ec.2 (Zqm c _ _ _ h)) _
 .exact ZtZ c d _ _ _ h
noncomputable def zL:List Nat->Bool
 |[]=>true|x::l=>gQ x 0&&zL l
noncomputable def QG:List Nat->List Nat->Bool
 |[],r=>zL r|x::l,[]=>gQ x 0&&zL l|x::l,y::r=>gQ x y&&QG l r
theorem QH:∀c l,zL l=true->dU c l=0
 |c,[],_=>oF c|[],x::l,_=>rfl|z::c,x::l,h=>by have h:=(Y5 _ _).mp h;show z*(x:Int)+dU c l=0;rw[zW h.1,QH c l h.2,z7];exact Jh z
theorem ZrB:∀c l r,QG l r=true->dU c l=dU c r
 |c,[],r,h=>(oF c).trans (QH c r h).symm|c,x::l,[],h=>(QH c (x::l) h).trans (oF c).symm|[],x::l,y::r,_=>rfl|z::c,x::l,y::r,h=>by have h:=(Y5 _ _).mp h;show z*(x:Int)+dU c l=z*(y:Int)+dU c r;rw[zW h.1,ZrB c l r h.2]
noncomputable def z_(u w:List Nat×List Nat):Bool:=xQ u.1 w.1&&QG u.2 w.2
theorem Zip(c:List Nat)(d:List Int){u w:List Nat×List Nat}(h:z_ u w=true):dI c d u<=dI c d w:=by have h:=(Y5 _ _).mp h;exact ZJ (Ec.2 (z9 _ _ _ h.1)) (Jg (ZrB d _ _ h.2))
noncomputable def QJ(c:List Nat)(d:List Int):Nat->Nat->Prop
 |0,s=>hP c d (s % 16) (s / 16)|n+1,s=>hP c d (s / 16 % 16) (s / 256)->QJ c d n (hR (s / 16 % 16) (s / 256))
noncomputable def gI(r s:Nat)(L R:List Nat×List Nat):Bool:=bif gQ r 0 then z_ (pL R ((bI 9 s).1.li,[])) (pL L ((bI 9 (bI 9 s).2).1.li,[]))
 else bif gQ r 1 then z_ (xR (pL R ((bI 9 s).1.li,[]))) (pL L ((bI 9 (bI 9 s).2).1.li,[]))
 else bif gQ r 8 then z_ (pL R (cI (bZ 9 s).1 (bZ 9 (bZ 9 s).2).1)) (pL L (cI (bZ 9 (bZ 9 s).2).1 (bZ 9 s).1))
 else bif gQ r 9 then z_ (xR (pL R (cI (bZ 9 s).1 (bZ 9 (bZ 9 s).2).1))) (pL L (cI (bZ 9 (bZ 9 s).2).1 (bZ 9 s).1))
 else z_ (xR R) L
noncomputable def QK:Nat->Nat->List Nat×List Nat->List Nat×List Nat->Bool
 |0,s,L,R=>gI (s % 16) (s / 16) L R|n+1,s,L,R=>QK n (hR (s / 16 % 16) (s / 256)) (pL L (sL (s % 16) (hL (s / 16 % 16) (s / 256)).1,sL (s % 16) (hL (s / 16 % 16) (s / 256)).2)) (pL R (sL (s % 16) (hH (s / 16 % 16) (s / 256)).1,sL (s % 16) (hH (s / 16 % 16) (s / 256)).2))
theorem Jz(c:List Nat)(d:List Int)(e:AE):dI c d (e.li,[])=((e.ev c:Nat):Int):=by show((dt (1::c) e.li:Nat):Int)+dU d []=_;rw[oF,z7,e.d7]
theorem Zq4{a b l r:Int}(h:l<=r)(e:r+a<=l+b):a<=b:=by omega
theorem ZpT{a b l r:Int}(h:l<=r)(e:r+a+1<=l+b):a<b:=by omega
theorem ZtP{l r:Int}(h:l<=r)(e:r+1<=l):False:=by omega
theorem Zxo(c:List Nat)(d:List Int)(r s:Nat)(L R:List Nat×List Nat)(h:dI c d L<=dI c d R)(k:gI r s L R=true):hP c d r s:=by
 unfold gI at k;cases e0:gQ r 0 with
 |true=>rw[zW e0]at k ⊢;have e:=Zip c d k;rw[jJ,jJ,Jz,Jz]at e;exact Ec.1 (Zq4 h e)|false=>
  cases e1:gQ r 1 with
  |true=>rw[zW e1]at k ⊢;have e:=Zip c d k;rw[Jw,jJ,jJ,Jz,Jz]at e;exact Ji.1 (ZpT h e)|false=>
   cases e8:gQ r 8 with
   |true=>rw[zW e8]at k ⊢;have e:=Zip c d k;rw[jJ,jJ]at e;exact Zxw c d (Zq4 h e)|false=>
    cases e9:gQ r 9 with
    |true=>rw[zW e9]at k ⊢;have e:=Zip c d k;rw[Jw,jJ,jJ]at e;have z:=ZpT h e;have y:=Jx c d (bZ 9 s).1 (bZ 9 (bZ 9 s).2).1;show(bZ 9 s).1.ev c d<(bZ 9 (bZ 9 s).2).1.ev c d;exact Int.lt_of_sub_neg (y▸Int.sub_neg_of_lt z)|false=>rw[e0,e1,e8,e9]at k;have e:=Zip c d k;rw[Jw]at e;exact(ZtP h e).elim
theorem arI(c:List Nat)(d:List Int):∀(n s:Nat) (L R:List Nat×List Nat),dI c d L<=dI c d R->QK n s L R=true->QJ c d n s
 |0,s,L,R,h,k=>Zxo c d _ _ L R h k|n+1,s,L,R,h,k=>λg=>arI c d n _ _ _ (by rw[jJ,jJ,Jv,Jv];exact ZJ h (Int.mul_le_mul_of_nonneg_left (ZwN c d _ _ g) (Eb _))) k
end _L3
theorem iN(c:List Nat)(d:List Int)(n s:Nat)(h:_L3.QK n s ([],[]) ([],[])=true):_L3.QJ c d n s:=_L3.arI c d n s ([],[]) ([],[]) (Int.le_refl _) h
set_option Elab.async false
set_option linter.all false
set_option maxRecDepth 100000
namespace _L2
open PySem PySem.Spec PyProof.Rows
noncomputable abbrev Key:=Sum Int aj
noncomputable def ZtA:Key->Yd->Bool
 | .inl k,v=>Value.isInt k v|.inr x,v=>Value.isStrOf x v
noncomputable def Zyt(w:aU):Key->Int
 | .inl k=>hashInt k|.inr x=>hashStr w x
theorem tY:∀{k:Key} {v:Yd},ZtA k v=true->(∃i t,k=Sum.inl i/\v=Value.int i t)\/(∃x t,k=Sum.inr x/\v=Value.str x t)
 | .inl i,v,h=>by obtain⟨t,e⟩:=Value.isInt_shape (k:=i) (v:=v) h;exact .inl ⟨i,t,rfl,e⟩|.inr x,v,h=>by obtain⟨t,e⟩:=Value.isStrOf_shape (x:=x) (v:=v) h;exact .inr ⟨x,t,rfl,e⟩
theorem Zvt(a b:Int):decide ((Sum.inl a:Key)=Sum.inl b)=(a==b):=by
 by_cases e:a=b
 .subst e;simp
 .have h:¬(Sum.inl a:Key)=Sum.inl b:=λq=>e (Sum.inl.inj q);rw[decide_eq_false h];exact(beq_eq_false_iff_ne.mpr e).symm
theorem Zvx(a b:aj):decide ((Sum.inr a:Key)=Sum.inr b)=decide (a=b):=by
 by_cases e:a=b
 .subst e;simp
 .have h:¬(Sum.inr a:Key)=Sum.inr b:=λq=>e (Sum.inr.inj q);rw[decide_eq_false h,decide_eq_false e]
theorem Zud(a:Int)(b:aj):decide ((Sum.inl a:Key)=Sum.inr b)=false:=decide_eq_false (λq=>nomatch q)
theorem Zuk(a:aj)(b:Int):decide ((Sum.inr a:Key)=Sum.inl b)=false:=decide_eq_false (λq=>nomatch q)
noncomputable def ZnN(prog:aZ)(w:aU):PySem.KeyKind prog w Key where
 is:=ZtA
 hash:=Zyt w
 inj:=λv a b ha hb=>by
  rcases tY ha with⟨i,t,rfl,rfl⟩|⟨x,t,rfl,rfl⟩
  .rcases tY hb with⟨j,u,rfl,e⟩|⟨y,u,rfl,e⟩
   .injection e with e1 _;rw[e1]
   .exact nomatch e
  .rcases tY hb with⟨j,u,rfl,e⟩|⟨y,u,rfl,e⟩
   .exact nomatch e
   .injection e with e1 _;rw[e1]
 byValue:=λk v h=>by rcases tY h with⟨i,t,rfl,rfl⟩|⟨x,t,rfl,rfl⟩<;>rfl
 pyHash:=λhv h=>by
  rcases tY hv with⟨i,t,rfl,rfl⟩|⟨x,t,rfl,rfl⟩
  .exact W_ h
  .exact Xa h
 eqBool:=λhu hv h=>by
  rcases tY hu with⟨i,t,rfl,rfl⟩|⟨x,t,rfl,rfl⟩
  .rcases tY hv with⟨j,u,rfl,rfl⟩|⟨y,u,rfl,rfl⟩
   .rw[Zvt]at h;exact wpAny_eqBool_int h
   .rw[Zud]at h;exact Qs i t y u _ _ _ _ h
  .rcases tY hv with⟨j,u,rfl,rfl⟩|⟨y,u,rfl,rfl⟩
   .rw[Zuk]at h;exact Jr x t j u _ _ _ _ h
   .rw[Zvx]at h;exact wpAny_eqBool_str h
 «strs»:=λk x t v h=>by
  rcases tY h with⟨i,u,rfl,e⟩|⟨y,u,rfl,e⟩
  .exact nomatch e
  .injection e with e1 _
   subst e1;cases v<;>rfl
end _L2
namespace _L2
open PySem PySem.Spec PyProof.Rows
inductive V where
 |non|bl (b:Bool)|int (i:Int)|str (x:aj)|Aa (b:Array UInt8)|flt (b:UInt64)|ref (a:Ys)|ty (n:String)
 deriving DecidableEq
noncomputable def RelV:V->Yd->Prop
 | .non,u=>u=Value.none|.bl b,u=>u=Value.bool b|.int i,u=>∃t,u=Value.int i t|.str x,u=>∃t,u=Value.str x t
 | .Aa b,u=>∃t,u=Value.bytes b t|.flt b,u=>∃t,u=Value.float b t|.ref a,u=>u=Value.ref a|.ty n,u=>u=Value.type n
noncomputable abbrev Vals:List V->List Yd->Prop:=Paired RelV
theorem Vals.length{xs:List V}{us:List Yd}(r:Vals xs us):xs.length=us.length:=Ym1 r
theorem Vals.get:∀{xs:List V} {us:List Yd} {i:Nat} {x:V},Vals xs us->xs[i]?=Ya x->∃u,us[i]?=Ya u/\RelV x u
 |_,_,_,_,.nil,e=>by simp at e|_,_,0,_,.cons r _,e=>by simp at e;subst e;exact⟨_,rfl,r⟩|_,_,i+1,x,.cons _ t,e=>by obtain⟨u,h1,h2⟩:=Vals.get (i:=i) (x:=x) t (by simpa using e);exact⟨u,by simpa using h1,h2⟩
theorem Vals.set{x:V}{u:Yd}(r:RelV x u):∀{xs:List V} {us:List Yd} (i:Nat),Vals xs us->Vals (xs.set i x) (us.set i u)
 |_,_,_,.nil=>.nil|_,_,0,.cons _ t=>.cons r t|_,_,i+1,.cons q t=>.cons q (Vals.set r i t)
theorem Vals.append:∀{xs ys:List V} {us ws:List Yd},Vals xs us->Vals ys ws->Vals (xs++ys) (us++ws)
 |_,_,_,_,.nil,s=>s|_,_,_,_,.cons r t,s=>.cons r (Vals.append t s)
theorem Vals.take:∀{xs:List V} {us:List Yd} (n:Nat),Vals xs us->Vals (xs.take n) (us.take n)
 |_,_,0,_=>.nil|_,_,_+1,.nil=>.nil|_,_,n+1,.cons r t=>.cons r (Vals.take n t)
theorem Vals.drop:∀{xs:List V} {us:List Yd} (n:Nat),Vals xs us->Vals (xs.drop n) (us.drop n)
 |_,_,0,r=>r|_,_,_+1,.nil=>.nil|_,_,n+1,.cons _ t=>Vals.drop n t
noncomputable def mW:Option V->Option Yd->Prop
 |some v,Ya u=>RelV v u|none,Yj=>True|_,_=>False
noncomputable def KV{κ:Type}:List (κ×V)->List (κ×Yd)->Prop:=Paired λ(p:κ×V) (q:κ×Yd)=>p.1=q.1/\RelV p.2 q.2
noncomputable def kV:Key->V
 | .inl i=>.int i|.inr x=>.str x
inductive HO where
 /--a list -/
 |lst (xs:List V)
 /--a tuple (never changes) -/
 |tup (xs:List V)
 /--a dict whose keys are ints and texts;one whose keys are tuples of ints and texts (the empty one is both) -/
 |dK (kvs:List (Key×V))|dT (kvs:List (List Key×V))
 /--a set of ints:its members,its size -/
 |set (S:Int->Bool) (n:Nat)
 /--an instance of the class at C,its dict at dx,its attributes -/
 |ins (C dx:Ys) (fs:List (aj×V))
 /--the dict of the instance at x -/
 |own (x:Ys)
 /--the dict of an exception -/
 |xd (fs:List (aj×V))
 /--a bound method,f of x -/
 |met (f x:Ys)
 /--a range object lo,lo+1,.. below hi -/
 |JB (lo hi:Int)
 /--a thing that is known to the object (the script;a dict while a loop walks it):read,never written while it is so -/
 |b7 (o:aD) (u:HO)
 /--a code object's table -/
 |vM (ps:Array Yd)
 /--any other thing,by what is true of its one object (a def of one's own:AeU a S n:=HO.ext λh=>..) -/
 |ext (φ:au->Prop)
noncomputable abbrev Hp:=Ys->Option HO
noncomputable def upd(H:Hp)(a:Ys)(o:HO):Hp:=λb=>if b=a then Ya o else H b
variable{H:Hp}
theorem fY{a:Ys}{o:HO}:upd H a o a=Ya o:=by unfold upd;rw[if_pos rfl]
theorem Zu{a b:Ys}{o:HO}(h:b≠a):upd H a o b=H b:=by unfold upd;rw[if_neg h]
theorem rD{a b:Ys}{o:HO}(h:H a=Ya o)(h':H b=Yj):a≠b:=by intro e;subst e;rw[h]at h';cases h'
section
variable (P:aZ) (w:aU)
def tZ(h:au)(a:Ys)(items:Array Yd):Prop:=∃o,h.get? a=Ya o/\(o.cls= .type "tuple" /\o.dict=Yj)/\∃n,o.data= .seq items n
theorem tZ.tup{h:au}{a:Ys}{items:Array Yd}(x:tZ h a items):IsTup h a items:=let⟨o,e,c,d⟩:=x;⟨o,e,c.1,d⟩
theorem tZ.new(h:au)(items:Array Yd):tZ (h.push {cls:=.type "tuple",data:=.seq items}) h.objs.size items:=⟨_,Y1 _ rfl,⟨rfl,rfl⟩,0,rfl⟩
noncomputable def cR(H:Hp)(h:au)(a:Ys):HO->Prop
 | .lst xs=>xs.length<=bF/\∃(its:List Yd) (n:Nat),Vals xs its/\h.get? a=Ya {cls:=.type "list",data:=.seq its.toArray n}|.tup xs=>xs.length<=bF/\∃its:List Yd,Vals xs its/\tZ h a its.toArray|.dK kvs=>kvs.length<=bF/\(a==sysModules)=false/\∃vs,KV kvs vs/\h.DictOf (ZnN P w) a vs|.dT kvs=>kvs.length<=bF/\(a==sysModules)=false/\∃xs:List (List Key×Ys×Yd),
   Paired (λ(p:List Key×V) (q:List Key×Ys×Yd)=>p.1=q.1/\H q.2.1=Ya (.tup (p.1.map kV))/\RelV p.2 q.2.2) kvs xs/\
   ∃o es ep,h.get? a=Ya o/\o.ExactDict/\o.data= .dict es ep/\es.toList=xs.map (entryOfKey (tupleKind (ZnN P w)))/\(xs.map (·.1)).Nodup
 | .set S n=>h.SetOf (intKind P w) a S n|.ins C dx fs=>H dx=Ya (.own a)/\fs.length<=1000/\dx≠a/\h.get? a=Ya (u6 C dx)/\
   ∃mA,h.Ns1 dx mA/\(∀f,mW (fs.lookup f) (mA f))/\Og mA (fs.map (·.1))
 | .own _=>∃o,h.get? a=Ya o|.xd fs=>∃mA,h.Ns1 a mA/\∀f,mW (fs.lookup f) (mA f)|.JB lo hi=>∃t u v,h.get? a=Ya {cls:=.type "range",data:=.fields #[.int lo t,.int hi u,.int 1 v]}|.b7 o u=>h.get? a=Ya o/\cR H h a u
 | .vM ps=>h.get? a=Ya {cls:=.none,data:=.fields ps}|.met f x=>h.get? a=Ya (Nt (.ref f) (.ref x))|.ext φ=>φ h/\(∃o,h.get? a=Ya o)/\∀h1 h2:au,φ h1->(∀o,h1.get? a=Ya o->h2.get? a=Ya o)->φ h2
def fD(H:Hp)(h:au):Prop:=∀a o,H a=Ya o->cR P w H h a o
end
section
variable {P:aZ} {w:aU} {H H':Hp} {h h':au} {a:Ys} {o:HO}
theorem cR.lt(x:cR P w H h a o):a<h.objs.size:=by
 cases o with
 |lst xs=>obtain⟨_,_,_,_,e⟩:=x;exact Y0 e|tup xs=>obtain⟨_,_,_,p⟩:=x;exact p.tup.lt|dK kvs=>obtain⟨_,_,_,_,o,_,_,e,_⟩:=x;exact Y0 e|dT kvs=>obtain⟨_,_,_,_,o,_,_,e,_⟩:=x;exact Y0 e
 |set S n=>obtain⟨o,_,_,_,e,_⟩:=x;exact Y0 e|ins C dx fs=>obtain⟨_,_,_,e,_⟩:=x;exact Y0 e|own y=>obtain⟨_,e⟩:=x;exact Y0 e|xd fs=>obtain⟨_,⟨_,_,_,e,_⟩,_⟩:=x;exact Y0 e
 |JB lo hi=>obtain⟨_,_,_,e⟩:=x;exact Y0 e|b7 ob u=>obtain⟨e,_⟩:=x;exact Y0 e|vM ps=>exact Y0 (show h.get? a=Ya _ from x)|met f y=>exact Y0 (show h.get? a=Ya _ from x)
 |ext φ=>obtain⟨_,⟨_,e⟩,_⟩:=x;exact Y0 e
theorem Paired.Nb{α β:Type}{F G:α->β->Prop}:∀{l₁:List α} {l₂:List β},Paired F l₁ l₂->(∀a b,F a b->G a b)->Paired G l₁ l₂
 |_,_,.nil,_=>.nil|_,_,.cons r t,f=>.cons (f _ _ r) (Paired.Nb t f)
theorem cR.stay(x:cR P w H h a o)(k:∀b u,(b=a\/H b=Ya (.own a))->h.get? b=Ya u->h'.get? b=Ya u)(ho:∀b,H b=Ya (.own a)->H' b=Ya (.own a))(ht:∀b xs,H b=Ya (.tup xs)->H' b=Ya (.tup xs)):cR P w H' h' a o:=by
 induction o with
 |lst xs=>obtain⟨z,its,n,r,e⟩:=x;exact⟨z,its,n,r,k _ _ (.inl rfl) e⟩|tup xs=>obtain⟨z,its,r,ob,e,c⟩:=x;exact⟨z,its,r,ob,k _ _ (.inl rfl) e,c⟩|dK kvs=>obtain⟨z,y,vs,r,ob,es,ep,e,c⟩:=x;exact⟨z,y,vs,r,ob,es,ep,k _ _ (.inl rfl) e,c⟩|dT kvs=>obtain⟨z,y,xs,r,ob,es,ep,e,c⟩:=x;exact⟨z,y,xs,Paired.Nb r λp q z=>⟨z.1,ht _ _ z.2.1,z.2.2⟩,ob,es,ep,k _ _ (.inl rfl) e,c⟩
 |set S n=>obtain⟨ob,es,ep,t,e,c⟩:=x;exact⟨ob,es,ep,t,k _ _ (.inl rfl) e,c⟩|ins C dx fs=>obtain⟨d,z,ne,e,mA,⟨od,es,ep,e2,c⟩,r⟩:=x;exact⟨ho _ d,z,ne,k _ _ (.inl rfl) e,mA,⟨od,es,ep,k _ _ (.inr d) e2,c⟩,r⟩
 |own y=>obtain⟨ob,e⟩:=x;exact⟨ob,k _ _ (.inl rfl) e⟩|xd fs=>obtain⟨mA,⟨od,es,ep,e,c⟩,r⟩:=x;exact⟨mA,⟨od,es,ep,k _ _ (.inl rfl) e,c⟩,r⟩|JB lo hi=>obtain⟨t,u,v,e⟩:=x;exact⟨t,u,v,k _ _ (.inl rfl) e⟩|b7 ob u ih=>obtain⟨e,q⟩:=x;exact⟨k _ _ (.inl rfl) e,ih q⟩
 |vM ps=>have e:h.get? a=Ya {cls:=.none,data:=.fields ps}:=x;show h'.get? a=Ya {cls:=.none,data:=.fields ps};exact k a _ (.inl rfl) e|met f y=>have e:h.get? a=Ya (Nt (.ref f) (.ref y)):=x;show h'.get? a=Ya (Nt (.ref f) (.ref y));exact k a _ (.inl rfl) e|ext φ=>obtain⟨p,⟨o,e⟩,st⟩:=x;exact⟨st _ _ p λo q=>k _ _ (.inl rfl) q,⟨o,k _ _ (.inl rfl) e⟩,st⟩
theorem fD.lt(x:fD P w H h)(e:H a=Ya o):a<h.objs.size:=(x a o e).lt
theorem fD.fresh(x:fD P w H h)(e:h.objs.size<=a):H a=Yj:=by
 cases q:H a with
 |none=>rfl|some u=>exact absurd (Y6 (x.lt q) e) (vH _)
theorem fD.kept(x:fD P w H h)(k:∀b u,h.get? b=Ya u->h'.get? b=Ya u):fD P w H h':=λa o e=>(x a o e).stay (λb u _ q=>k b u q) (λ_ q=>q) λ_ _ q=>q
theorem fD.laid(x:fD P w H h)(k:∀b u,h.get? b=Ya u->h'.get? b=Ya u)(hp:h.objs.size<=a)(new:cR P w (upd H a o) h' a o):fD P w (upd H a o) h':=λb u e=>by
 have hn:=x.fresh hp;by_cases hb:b=a
 .subst hb;rw[fY]at e;cases e;exact new
 .rw[Zu hb]at e;exact(x b u e).stay (λc v _ q=>k c v q) (λc q=>by rw[Zu (rD q hn)];exact q) λc xs q=>by rw[Zu (rD q hn)];exact q
end
def Rd(H:Hp)(a:Ys)(u:HO):Prop:=H a=Ya u\/∃o,H a=Ya (.b7 o u)
theorem Rd.ok{P:aZ}{w:aU}{h:au}{a:Ys}{u:HO}(r:Rd H a u)(x:fD P w H h):cR P w H h a u:=by
 rcases r with r|⟨o,r⟩
 .exact x a u r
 .obtain⟨_,q⟩:=x a _ r;exact q
noncomputable def JC:Option HO->Prop
 |some (.lst _)=>True|some (.dK _)=>True|some (.dT _)=>True|some (.set _ _)=>True
 |some (.ins _ _ _)=>True|some (.ext _)=>True|_=>False
section
variable {P:aZ} {w:aU} {H:Hp} {h h':au} {x e:Ys} {o':HO}
theorem fD.write(ok:fD P w H h)(mu:JC (H x))(he:e=x\/H e=Ya (.own x))(k:∀b u,b≠e->h.get? b=Ya u->h'.get? b=Ya u)(heo:∃u,h'.get? e=Ya u)(new:cR P w (upd H x o') h' x o'):fD P w (upd H x o') h':=λb u q=>by
 have V8:∀c y,H c=Ya (.own y)->c≠x:=λc y r z=>by subst z;rw[r]at mu;exact mu
 have AcD:∀c xs,H c=Ya (.tup xs)->c≠x:=λc xs r z=>by subst z;rw[r]at mu;exact mu
 by_cases hb:b=x
 .subst hb;rw[fY]at q;cases q;exact new
 .rw[Zu hb]at q;by_cases hbe:b=e
  .have q':H b=Ya (.own x):=by
    rcases he with z|z
    .exact absurd (hbe.trans z) hb
    .rw[hbe];exact z
   rw[q]at q';cases q';obtain⟨v,hv⟩:=heo;exact⟨v,by rw[hbe];exact hv⟩
  .refine(ok b u q).stay (λc v hc r=>k c v ?_ r) (λc r=>by rw[Zu (V8 c b r)];exact r) λc xs r=>by rw[Zu (AcD c xs r)];exact r
   rcases hc with rfl|hc
   .exact hbe
   .rintro rfl;rcases he with z|z
    .exact V8 c b hc z
    .rw[hc]at z;cases z;exact hb rfl
end
structure Un(fs ex:List Ys)(H H':Hp)(h h':au):Prop where
 keep:∀b o,h.get? b=Ya o->H b=Yj->b∉fs->b∉ex->h'.get? b=Ya o
 slot:∀b o,h.get? b=Ya o->H b=Yj->b∈fs->b∉ex->∃sl,h'.get? b=Ya {o with slots:=sl}
 free:∀b o,h.get? b=Ya o->H b=Yj->b∉ex->H' b=Yj
 there:∀b o,h.get? b=Ya o->b∉ex->∃o',h'.get? b=Ya o'
 tups:∀b xs,H b=Ya (.tup xs)->H' b=Ya (.tup xs)
 jD:∀b o u,H b=Ya (.b7 o u)->H' b=Ya (.b7 o u)
 jR:∀b ps,H b=Ya (.vM ps)->∃more,H' b=Ya (.vM (ps++more))
section
variable {fs fs' ex ex':List Ys} {H H1 H2:Hp} {h h1 h2 h':au} {a x e:Ys} {o:HO}
theorem Un.any(u:Un fs ex H H1 h h1){b:Ys}{ob:aD}(q:h.get? b=Ya ob)(n:H b=Yj)(hx:b∉ex):∃sl,h1.get? b=Ya {ob with slots:=sl}:=by
 by_cases hb:b∈fs
 .exact u.slot b ob q n hb hx
 .exact⟨ob.slots,u.keep b ob q n hb hx⟩
theorem Un.trans(a:Un fs ex H H1 h h1)(b:Un fs ex H1 H2 h1 h2):Un fs ex H H2 h h2 where
 keep:=λc ob q n hc hx=>b.keep c ob (a.keep c ob q n hc hx) (a.free c ob q n hx) hc hx
 slot:=λc ob q n hc hx=>by obtain⟨sl,e1⟩:=a.slot c ob q n hc hx;obtain⟨sl',e2⟩:=b.slot c _ e1 (a.free c ob q n hx) hc hx;exact⟨sl',e2⟩
 free:=λc ob q n hx=>by obtain⟨o',e1⟩:=a.there c ob q hx;exact b.free c o' e1 (a.free c ob q n hx) hx
 there:=λc ob q hx=>by obtain⟨o',e1⟩:=a.there c ob q hx;exact b.there c o' e1 hx
 tups:=λc xs q=>b.tups c xs (a.tups c xs q)
 jD:=λc ob xs q=>b.jD c ob xs (a.jD c ob xs q)
 jR:=λc ps q=>by obtain⟨m1,e1⟩:=a.jR c ps q;obtain⟨m2,e2⟩:=b.jR c _ e1;exact⟨m1++m2,by rw[e2,ZP]⟩
theorem Un.kept(k:∀b u,h.get? b=Ya u->h'.get? b=Ya u):Un fs ex H H h h':=⟨λb ob q _ _ _=>k b ob q,λb ob q _ _ _=>⟨ob.slots,k b ob q⟩,λ_ _ _ n _=>n,λb ob q _=>⟨ob,k b ob q⟩,λ_ _ q=>q,λ_ _ _ q=>q,λ_ ps q=>⟨#[],by rw[q];simp⟩⟩
theorem Un.refl:Un fs ex H H h h:=Un.kept λ_ _ q=>q
theorem Un.laid(k:∀b u,h.get? b=Ya u->h'.get? b=Ya u)(hp:h.objs.size<=a)(hn:H a=Yj):Un fs ex H (upd H a o) h h' where
 keep:=λb u q _ _ _=>k b u q
 slot:=λb u q _ _ _=>⟨u.slots,k b u q⟩
 free:=λb u q n _=>by rw[Zu (dM (Y6 (Y0 q) hp))];exact n
 there:=λb u q _=>⟨u,k b u q⟩
 tups:=λb xs q=>by rw[Zu (rD q hn)];exact q
 jD:=λb u xs q=>by rw[Zu (rD q hn)];exact q
 jR:=λb ps q=>⟨#[],by rw[Zu (rD q hn),q];simp⟩
theorem Un.write(mu:JC (H x))(he:e=x\/H e=Ya (.own x))(k:∀b u,b≠e->h.get? b=Ya u->h'.get? b=Ya u)(heo:∃u,h'.get? e=Ya u):Un fs ex H (upd H x o) h h':=by
 have hx:∀b,H b=Yj->b≠x:=λb n z=>by subst z;rw[n]at mu;exact mu
 have hb:∀b,H b=Yj->b≠e:=λb n z=>by
  subst z;rcases he with r|r
  .exact hx b n r
  .rw[n]at r;cases r
 have hm:∀b u,H b=Ya u->¬JC (Ya u)->b≠x:=λb u q nm z=>by subst z;rw[q]at mu;exact nm mu
 refine⟨λb u q n _ _=>k b u (hb b n) q,λb u q n _ _=>⟨u.slots,k b u (hb b n) q⟩,λb u q n _=>by rw[Zu (hx b n)];exact n,λb u q _=>?_,
  λb xs q=>by rw[Zu (hm b _ q λz=>z)];exact q,λb u xs q=>by rw[Zu (hm b _ q λz=>z)];exact q,λb ps q=>⟨#[],by rw[Zu (hm b _ q λz=>z),q];simp⟩⟩
 by_cases hbe:b=e
 .subst hbe;exact heo
 .exact⟨u,k b u hbe q⟩
theorem Un.mono(u:Un fs ex H H1 h h1)(hs:∀b∈fs,b∈fs')(hx:∀b∈ex,b∈ex'):Un fs' ex' H H1 h h1:=⟨λb ob q n hb he=>u.keep b ob q n (λz=>hb (hs b z)) λz=>he (hx b z),λ_ _ q n _ he=>u.any q n λz=>he (hx _ z),λb ob q n he=>u.free b ob q n λz=>he (hx b z),λb ob q he=>u.there b ob q λz=>he (hx b z),u.tups,u.jD,u.jR⟩
end
noncomputable def xT(h:au)(H:Hp):List Ys:=(iV h.objs.size).filter λa=>(H a).isSome
noncomputable def t6(h:au)(H:Hp):au:=WP h (xT h H)
theorem Zoq(h:au)(H:Hp):(t6 h H).objs.size=h.objs.size:=PySem.W.hideAll_size _ _
theorem Zqv{h:au}{b:Ys}{o:aD}(e:h.get? b=Ya o)(n:H b=Yj):(t6 h H).get? b=Ya o:=Dj _ e λhm=>by have q:(H b).isSome=true:=(XJ.mp hm).2;rw[n]at q;simp at q
theorem Ztk{h:au}{b:Ys}{o:aD}(e:(t6 h H).get? b=Ya o):h.get? b=Ya o/\H b=Yj:=by
 have e':h.get? b=Ya o:=Wz (xT h H) e;refine⟨e',?_⟩;cases q:H b with
 |none=>rfl|some x=>have hm:b∈xT h H:=XJ.mpr ⟨O8.mpr (Y0 e'),by simp[q]⟩;have z:(t6 h H).get? b=Yj:=Wy (xT h H) hm;rw[z]at e;cases e
noncomputable def ZsQ(g h:au)(L:Ys):List (Ys×aD):=(iV h.objs.size).filterMap λa=>if a=L\/(g.get? a).isSome=true then Yj else(h.get? a).map λo=>(a,o)
noncomputable def rest(g h:au)(L d:Ys):List (Ys×aD):=(ZsQ g h L).filter λp=>decide (p.1≠d)
end _L2
namespace _L2
open PySem PySem.Spec PyProof.Rows
structure Mod(K:Yb)(mg:aj->Option Yd)(base:au):Prop where
 xU:K.In base
 glob:base.Ns Yu mg
 blt:∃mb,base.Ns Oi mb/\∀x:aj,x≠ "__name__" ->mb x=jr x
 nolimit:base.NoLimit
/--the context:a def's body (or a comprehension's block) running. base:fixed through the whole law;s₀,H₀:the entry;outer:the frames whose slots others may change(a def's callers);stack:all frames that run;
  ex:iterators that were made ahead of the entry and are walked here (a comprehension's);fn:the names whose cells were made at the entry (a def:all;a comprehension's block:its own);calm:not within an except suite;pn:pins that every state bears;xe:what is wanted of an exception that leaves the code -/
structure Cx where
 prog:aZ
 w:aU
 K:Yb
 mg:aj->Option Yd
 base:au
 A:bj
 N:List aj
 s₀:Yf
 H₀:Hp
 env:cH
 outer:List cH
 stack:List cH
 ex:List Ys
 fn:aj->Bool
 calm:Bool
 pn:List (Ys×aD)
 xe:Yd->Yf->Prop
noncomputable def frs(l:List cH):List Ys:=l.filterMap (·.frame)
noncomputable abbrev Cx.fs(X:Cx):List Ys:=frs X.outer
def JD(sc:Scope)(x:aj):Prop:=sc.names.lookup x=Ya .local\/sc.names.lookup x=Ya .cell\/sc.names.lookup x=Ya .free
def Loc(sc:Scope)(x:aj):Prop:=sc.names.lookup x=Ya .local\/sc.names.lookup x=Ya .cell
def Look(env:cH)(h:au)(m:aj->Option Yd)(x:aj)(u:Yd):Prop:=(env.kindOf x=Ya .local/\m x=Ya u)\/((env.kindOf x=Ya .cell\/env.kindOf x=Ya .free)/\∃c,env.cells.lookup x=Ya c/\h.IsCell c (Ya u))
structure Cx.Ok(X:Cx):Prop where
 mod:Mod X.K X.mg X.base
 kind:X.env.scope.kind= .function
 glob:X.env.globals=Yu
 blt:X.env.builtins=Oi
 above:X.s₀.heap.objs.size<=X.env.locals
 inj:∀x y c,X.env.cells.lookup x=Ya c->X.env.cells.lookup y=Ya c->x=y
 has:∀x,(X.env.kindOf x=Ya .cell\/X.env.kindOf x=Ya .free)->∃c,X.env.cells.lookup x=Ya c
 cab:∀x c,X.fn x=true->X.env.cells.lookup x=Ya c->X.s₀.heap.objs.size<=c
 hd:X.calm=true->X.A.handled=Yj
 frames:X.A.frames=Ya X.stack
 Ab:X.stack=X.outer\/(X.stack=X.env::X.outer/\X.env.frame=Ya X.env.locals)
 Ac:∀b∈X.ex,b≠X.env.locals/\∀x c,X.env.cells.lookup x=Ya c->c≠b
 bs:∀b o,X.base.get? b=Ya o->X.s₀.heap.get? b=Ya o/\X.H₀ b=Yj
 mX:X.base.objs.size<=X.s₀.heap.objs.size
 wQ:∀b o,X.base.get? b=Ya o->b∉X.ex
 uY:∀b∈X.ex,b∉X.fs
 jE:X.s₀.heap.FunFrames X.base X.outer
 pM:∀b∈X.fs,X.H₀ b=Yj
structure Inv(X:Cx)(pins:List (Ys×aD))(σ:List (Option V))(H:Hp)(s:Yf):Prop where
 ok:X.Ok
 os:s.os=X.s₀.os
 bare:q_ s.gens
 base:Un X.fs X.ex X.H₀ H X.s₀.heap s.heap
 loc:∃m,s.heap.Ns X.env.locals m/\∀(i:Nat) (x:aj) (v:V),X.N[i]?=Ya x->σ[i]?=Ya (Ya v)->JD X.env.scope x->∃u,RelV v u/\Look X.env s.heap m x u
 cell:∀x c,X.env.cells.lookup x=Ya c->∃v,s.heap.IsCell c v
 free:H X.env.locals=Yj
 jC:∀x c,X.env.cells.lookup x=Ya c->H c=Yj
 pin:∀p∈X.pn++pins,s.heap.get? p.1=Ya p.2/\H p.1=Yj/\p.1≠X.env.locals/\p.1∉X.fs/\∀v,p.2.data≠ .cell v
 hok:fD X.prog X.w H s.heap
 len:σ.length=X.N.length
variable{E:Yd->Yf->Prop}{t':Nat}{ch:List Ys}
section
variable {X:Cx} {pins:List (Ys×aD)} {σ:List (Option V)} {H H':Hp} {s:Yf} {h':au}
theorem Cx.Ok.AcE(ok:X.Ok){b:Ys}{o:aD}(e:X.base.get? b=Ya o):b∉X.fs:=λhb=>by have:=(ok.jE.mem hb).1;rw[e]at this;cases this
theorem Inv.bs(I:Inv X pins σ H s):∀b o,X.base.get? b=Ya o->s.heap.get? b=Ya o/\H b=Yj:=λb o e=>⟨I.base.keep b o (I.ok.bs b o e).1 (I.ok.bs b o e).2 (I.ok.AcE e) (I.ok.wQ b o e),I.base.free b o (I.ok.bs b o e).1 (I.ok.bs b o e).2 (I.ok.wQ b o e)⟩
theorem Inv.bk(I:Inv X pins σ H s):∀b o,X.base.get? b=Ya o->s.heap.get? b=Ya o:=λb o e=>(I.bs b o e).1
theorem Inv.mod(I:Inv X pins σ H s):Mod X.K X.mg X.base:=I.ok.mod
theorem Inv.bN(I:Inv X pins σ H s):X.K.In s.heap:=I.ok.mod.xU.keeps I.bk
theorem Inv.nolimit(I:Inv X pins σ H s):s.heap.NoLimit:=I.ok.mod.nolimit.keeps I.bk
theorem Inv.fr(I:Inv X pins σ H s):∃m,Fr X.base X.env.locals s.heap m:=
 let⟨m,hn,_⟩:=I.loc
 ⟨m,hn,I.bk,Yp I.ok.mX I.ok.above⟩
theorem Inv.lt(I:Inv X pins σ H s):X.env.locals<s.heap.objs.size:=let⟨_,hn,_⟩:=I.loc;hn.lt
theorem Inv.sz(I:Inv X pins σ H s):X.s₀.heap.objs.size<=s.heap.objs.size:=Yp I.ok.above (Pr I.lt)
theorem Inv.AcF(I:Inv X pins σ H s){a:Ys}(h:s.heap.objs.size<=a):a∉X.fs:=λhb=>by obtain⟨_,o,ho,_⟩:=I.ok.jE.mem hb;exact absurd (Y6 (Y0 ho) (Yp I.sz h)) (vH _)
theorem Inv.vN(I:Inv X pins σ H s):∀x c,X.env.cells.lookup x=Ya c->c≠X.env.locals:=λx c e z=>by obtain⟨v,o,ho,hd⟩:=I.cell x c e;obtain⟨m,⟨o',es,ep,ho',hd',_⟩,_⟩:=I.loc;rw[z,ho']at ho;cases ho;rw[hd']at hd;cases hd
theorem Inv.jE(I:Inv X pins σ H s):s.heap.FunFrames X.base X.outer:=by
 have all:∀(l:List cH),(∀b∈frs l,b∈X.fs)->X.s₀.heap.FunFrames X.base l->s.heap.FunFrames X.base l:=by
  intro l
  induction l with
  |nil=>intro _ _;trivial|cons env r ih=>intro hs hl;obtain⟨hk,⟨L,o,hf,hn,ho,hd⟩,hr⟩:=hl;have hL:L∈X.fs:=hs L (by unfold frs;rw[OD,hf];exact Yg);obtain⟨sl,e⟩:=I.base.slot L o ho (I.ok.pM L hL) hL λz=>I.ok.uY L z hL;exact⟨hk,⟨L,_,hf,hn,e,hd⟩,ih (λb hb=>hs b (by unfold frs;rw[OD,hf];exact Ye _ hb)) hr⟩
 exact all X.outer (λ_ hb=>hb) I.ok.jE
theorem Inv.stack(I:Inv X pins σ H s):s.heap.FunFrames X.base X.stack:=by
 rcases I.ok.Ab with e|⟨e,hf⟩
 .rw[e];exact I.jE
 .rw[e];obtain⟨m,hn,_⟩:=I.loc;refine .cons (by rw[I.ok.kind];decide) hf hn ?_ I.jE;exact Iw (Yp I.ok.mX I.ok.above)
theorem Inv.zj(I:Inv X pins σ H s):∀b∈frs X.stack,b∈X.env.locals::X.fs:=λb hb=>by
 rcases I.ok.Ab with e|⟨e,hf⟩
 .rw[e]at hb;exact Ye _ hb
 .rw[e]at hb;unfold frs at hb;rw[OD,hf]at hb;exact hb
theorem Inv.MN(I:Inv X pins σ H s):∀b∈frs X.stack,H b=Yj:=λb hb=>by
 rcases Ym.mp (I.zj b hb)with e|hb
 .rw[e];exact I.free
 .obtain⟨_,o,ho,_⟩:=I.ok.jE.mem hb;exact I.base.free b o ho (I.ok.pM b hb) λz=>I.ok.uY b z hb
theorem Inv.step{g':Array GenState}{d':Drawn}(I:Inv X pins σ H s)(hch:∀b∈ch,(b∈X.ex\/X.s₀.heap.objs.size<=b)/\b≠X.env.locals/\(∀x c,X.env.cells.lookup x=Ya c->c≠b)/\∀p∈X.pn++pins,p.1≠b)(keep:∀b o,b≠X.env.locals->b∉X.fs->b∉ch->s.heap.get? b=Ya o->H b=Yj->h'.get? b=Ya o)(slot:∀b o,b≠X.env.locals->b∈X.fs->b∉ch->s.heap.get? b=Ya o->H b=Yj->∃sl,h'.get? b=Ya {o with slots:=sl})(free:∀b o,b∉ch->s.heap.get? b=Ya o->H b=Yj->H' b=Yj)(there:∀b o,b∉ch->s.heap.get? b=Ya o->∃o',h'.get? b=Ya o')(tups:∀b xs,H b=Ya (.tup xs)->H' b=Ya (.tup xs))(jD:∀b o u,H b=Ya (.b7 o u)->H' b=Ya (.b7 o u))(jR:∀b ps,H b=Ya (.vM ps)->∃more,H' b=Ya (.vM (ps++more)))(ns:∀m,s.heap.Ns X.env.locals m->h'.Ns X.env.locals m)(hok:fD X.prog X.w H' h')(hg:q_ g'):
  Inv X pins σ H' {s with heap:=h',gens:=g',drawn:=d',toks:=t'}:=by
 have neL:∀b o,X.s₀.heap.get? b=Ya o->b≠X.env.locals:=λb o e=>dM (Y6 (Y0 e) I.ok.above);have JF:∀b o,X.s₀.heap.get? b=Ya o->b∉X.ex->b∉ch:=λb o e hx hb=>by
  rcases(hch b hb).1 with z|z
  .exact hx z
  .exact absurd (Y6 (Y0 e) z) (vH _)
 have cellK:∀x c,X.env.cells.lookup x=Ya c->∀v,s.heap.IsCell c v->h'.IsCell c v:=λx c e v ak=>by
  obtain⟨o,ho,hd⟩:=ak;have En:c∉ch:=λz=>(hch c z).2.2.1 x c e rfl;by_cases hc:c∈X.fs
  .obtain⟨sl,q⟩:=slot c o (I.vN x c e) hc En ho (I.jC x c e);exact⟨_,q,hd⟩
  .exact⟨o,keep c o (I.vN x c e) hc En ho (I.jC x c e),hd⟩
 refine⟨I.ok,I.os,hg,⟨λb o e n hb hx=>?_,λb o e n hb hx=>?_,λb o e n hx=>?_,λb o e hx=>?_,λb xs e=>tups b xs (I.base.tups b xs e),λb o xs e=>jD b o xs (I.base.jD b o xs e),λb ps e=>?_⟩,?_,λx c e=>?_,?_,λx c e=>?_,λp hp=>?_,hok,I.len⟩
 .exact keep b o (neL b o e) hb (JF b o e hx) (I.base.keep b o e n hb hx) (I.base.free b o e n hx)
 .obtain⟨sl,e1⟩:=I.base.slot b o e n hb hx;obtain⟨sl',e2⟩:=slot b _ (neL b o e) hb (JF b o e hx) e1 (I.base.free b o e n hx);exact⟨sl',e2⟩
 .obtain⟨o',e1⟩:=I.base.there b o e hx;exact free b o' (JF b o e hx) e1 (I.base.free b o e n hx)
 .obtain⟨o',e1⟩:=I.base.there b o e hx;exact there b o' (JF b o e hx) e1
 .obtain⟨m1,e1⟩:=I.base.jR b ps e;obtain⟨m2,e2⟩:=jR b _ e1;exact⟨m1++m2,by rw[e2,ZP]⟩
 .obtain⟨m,hn,hl⟩:=I.loc;refine⟨m,ns m hn,λi x v e1 e2 e3=>?_⟩;obtain⟨u,r,l⟩:=hl i x v e1 e2 e3;refine⟨u,r,?_⟩;rcases l with l|⟨k,c,e,z⟩
  .exact .inl l
  .exact .inr ⟨k,c,e,cellK x c e _ z⟩
 .obtain⟨v,z⟩:=I.cell x c e;exact⟨v,cellK x c e v z⟩
 .obtain⟨m,⟨o,_,_,ho,_⟩,_⟩:=I.loc;exact free _ o (λz=>(hch _ z).2.1 rfl) ho I.free
 .obtain⟨v,o,ho,hd⟩:=I.cell x c e;exact free c o (λz=>(hch c z).2.2.1 x c e rfl) ho (I.jC x c e)
 .obtain⟨e,n,ne,nf,d⟩:=I.pin p hp;have En:p.1∉ch:=λz=>(hch p.1 z).2.2.2 p hp rfl;exact⟨keep p.1 p.2 ne nf En e n,free p.1 p.2 En e n,ne,nf,d⟩
theorem Inv.un(I:Inv X pins σ H s)(u:Un X.fs [] H H' s.heap h')(hok:fD X.prog X.w H' h'):Inv X pins σ H' {s with heap:=h',toks:=t'}:=by obtain⟨m,⟨o,es,ep,ho,r⟩,_⟩:=id I.loc;obtain⟨sl,hL⟩:=u.any ho I.free (by simp);exact I.step (g':=s.gens) (d':=s.drawn) (ch:=[]) (λ_ z=>nomatch z) (λb o _ hb _ e n=>u.keep b o e n hb (by simp)) (λb o _ hb _ e n=>u.slot b o e n hb (by simp)) (λb o _ e n=>u.free b o e n (by simp)) (λb o _ e=>u.there b o e (by simp)) u.tups u.jD u.jR (λm' hm=>by obtain⟨o',es',ep',ho',r'⟩:=hm;rw[ho]at ho';cases ho';exact⟨_,es',ep',hL,r'⟩) hok I.bare
theorem Inv.call{g':Array GenState}{d':Drawn}(I:Inv X pins σ H s)(u:Un (frs X.stack) ch H H' s.heap h')(hok:fD X.prog X.w H' h')(hg:q_ g')(hch:∀b∈ch,(b∈X.ex\/X.s₀.heap.objs.size<=b)/\b≠X.env.locals/\(∀x c,X.env.cells.lookup x=Ya c->c≠b)/\∀p∈X.pn++pins,p.1≠b):
  Inv X pins σ H' {s with heap:=h',gens:=g',drawn:=d',toks:=t'}:=by
 obtain⟨m,⟨o,es,ep,ho,r⟩,_⟩:=id I.loc;obtain⟨sl,hL⟩:=u.any ho I.free λz=>(hch _ z).2.1 rfl;exact I.step (ch:=ch) hch (λb o hL hb hc e n=>u.keep b o e n (λz=>(Ym.mp (I.zj b z)).elim hL hb) hc) (λb o _ _ hc e n=>u.any e n hc) (λb o hc e n=>u.free b o e n hc) (λb o hc e=>u.there b o e hc) u.tups u.jD u.jR (λm' hm=>by obtain⟨o',es',ep',ho',r'⟩:=hm;rw[ho]at ho';cases ho';exact⟨_,es',ep',hL,r'⟩) hok hg
theorem Inv.turned{it:Ys}(I:Inv X pins σ H s)(k:∀b o,b≠it->s.heap.get? b=Ya o->h'.get? b=Ya o)(hn:H it=Yj)(hL:it≠X.env.locals)(h1:it∈X.ex\/X.s₀.heap.objs.size<=it)(h2:∀x c,X.env.cells.lookup x=Ya c->c≠it)(h3:∀p∈X.pn++pins,p.1≠it):Inv X pins σ H {s with heap:=h',toks:=t'}:=by
 have Eo:∀b u,H b=Ya u->b≠it:=λb u e z=>by rw[z,hn]at e;cases e
 refine I.step (g':=s.gens) (d':=s.drawn) (ch:=[it]) (λb hb=>?_) (λb o _ _ hc e _=>k b o (λz=>hc (by simp[z])) e) (λb o _ _ hc e _=>⟨o.slots,k b o (λz=>hc (by simp[z])) e⟩) (λ_ _ _ _ n=>n)
  (λb o hc e=>⟨o,k b o (λz=>hc (by simp[z])) e⟩) (λ_ _ e=>e) (λ_ _ _ e=>e) (λb ps e=>⟨#[],by rw[e];simp⟩) (λm hm=>?_) (λb u e=>?_) I.bare
 .have e:b=it:=by simpa using hb
  subst e;exact⟨h1,hL,h2,h3⟩
 .obtain⟨o,es,ep,ho,r⟩:=hm;exact⟨o,es,ep,k _ o (bT hL) ho,r⟩
 .refine(I.hok b u e).stay (λc v hc q=>k c v ?_ q) (λ_ q=>q) λ_ _ q=>q;rcases hc with z|z
  .rw[z];exact Eo b u e
  .exact Eo c _ z
theorem Inv.tok(I:Inv X pins σ H s)(t:Nat):Inv X pins σ H {s with toks:=t}:=I.un (h':=s.heap) (t':=t) Un.refl I.hok
theorem Inv.kept(I:Inv X pins σ H s)(k:∀b u,s.heap.get? b=Ya u->h'.get? b=Ya u):Inv X pins σ H {s with heap:=h',toks:=t'}:=I.un (Un.kept k) (I.hok.kept k)
theorem Inv.laid{a:Ys}{o:HO}(I:Inv X pins σ H s)(k:∀b u,s.heap.get? b=Ya u->h'.get? b=Ya u)(hp:s.heap.objs.size<=a)(new:cR X.prog X.w (upd H a o) h' a o):
  Inv X pins σ (upd H a o) {s with heap:=h',toks:=t'}:=I.un (Un.laid k hp (I.hok.fresh hp)) (I.hok.laid k hp new)
theorem Inv.write{x e:Ys}{o:HO}(I:Inv X pins σ H s)(mu:JC (H x))(he:e=x\/H e=Ya (.own x))(k:∀b u,b≠e->s.heap.get? b=Ya u->h'.get? b=Ya u)(heo:∃u,h'.get? e=Ya u)(new:cR X.prog X.w (upd H x o) h' x o):Inv X pins σ (upd H x o) {s with heap:=h',toks:=t'}:=I.un (Un.write mu he k heo) (I.hok.write mu he k heo new)
theorem Inv.VP{uX:List (Ys×aD)}(I:Inv X pins σ H s)(h:∀p∈uX,s.heap.get? p.1=Ya p.2/\H p.1=Yj/\p.1≠X.env.locals/\p.1∉X.fs/\∀v,p.2.data≠ .cell v):Inv X uX σ H s:=⟨I.ok,I.os,I.bare,I.base,I.loc,I.cell,I.free,I.jC,λp hp=>(gP.mp hp).elim (λz=>I.pin p (n_ _ z)) (h p),I.hok,I.len⟩
theorem QL{N:List aj}(hN:N.Nodup){i j:Nat}{x:aj}(a:N[i]?=Ya x)(b:N[j]?=Ya x):i=j:=by obtain⟨h1,e1⟩:=Yh.mp a;obtain⟨h2,e2⟩:=Yh.mp b;exact(XC hN).mp (e1.trans e2.symm)
theorem ZjP{M:Model}{A:bj}{i:Nat}{x:aj}{v:V}{u:Yd}{Q:Unit->Yf->Prop}(I:Inv X pins σ H s)(hN:X.N.Nodup)(hi:X.N[i]?=Ya x)(hx:Loc X.env.scope x)(r:RelV v u)(h:∀s',Inv X pins (σ.set i (Ya v)) H s'->(∃a,DQ a s.heap s'.heap/\(a=X.env.locals\/X.env.cells.lookup x=Ya a))->Q () s')(hf:X.fn x=true\/X.env.scope.names.lookup x=Ya .local:=by first|exact .inl rfl|exact .inr rfl|assumption):Y8 M A (storeName X.env x u) Q E s:=by
 obtain⟨m,hn,hl⟩:=id I.loc;have hcls:(X.env.scope.kind== .class|| (X.env.scope.kind== .module&&X.env.locals !=X.env.globals))=false:=by rw[I.ok.kind];rfl
 have hiσ:i<σ.length:=by rw[I.len];exact(Yh.mp hi).1
 have vN:=I.vN;have tracked:∀{a:Ys} {h':au},(∃o,s.heap.get? a=Ya o/\H a=Yj)->DQ a s.heap h'->fD X.prog X.w H h':=λ{a h'} ha hs b ob e=>by
  obtain⟨_,_,hfree⟩:=ha;refine(I.hok b ob e).stay (λc w' hc q=>(hs.2 c ?_).trans q) (λ_ q=>q) λ_ _ q=>q;rintro rfl;rcases hc with rfl|hc
  .rw[hfree]at e;cases e
  .rw[hfree]at hc;cases hc
 rcases hx with hk|hk
 .refine W0 hk hn (λh' hn' hs=>?_) hcls;obtain⟨oL,_,_,hoL,_⟩:=id hn;refine h _ ⟨I.ok,I.os,I.bare,⟨λb o e n hb hx=>?_,λb o e n hb hx=>?_,I.base.free,λb o e hx=>?_,I.base.tups,I.base.jD,I.base.jR⟩,⟨_,hn',λj y v' e1 e2 e3=>?_⟩,λy c e=>?_,I.free,I.jC,λp hp=>?_,tracked ⟨oL,hoL,I.free⟩ hs,by simpa using I.len⟩ ⟨_,hs,.inl rfl⟩
  .exact(hs.2 b (dM (Y6 (Y0 e) I.ok.above))).trans (I.base.keep b o e n hb hx)
  .obtain⟨sl,e1⟩:=I.base.slot b o e n hb hx;exact⟨sl,(hs.2 b (dM (Y6 (Y0 e) I.ok.above))).trans e1⟩
  .obtain⟨o',e1⟩:=I.base.there b o e hx;exact⟨o',(hs.2 b (dM (Y6 (Y0 e) I.ok.above))).trans e1⟩
  .by_cases hj:j=i
   .subst hj;rw[hi]at e1;cases e1;rw[jX hiσ]at e2;cases e2;exact⟨u,r,.inl ⟨hk,by simp⟩⟩
   .rw[Yz (bT hj)]at e2;obtain⟨u',r',q⟩:=hl j y v' e1 e2 e3;refine⟨u',r',?_⟩;rcases q with⟨k,e⟩|⟨k,c,e,z⟩
    .refine .inl ⟨k,?_⟩;have:y≠x:=λe=>hj (QL hN e1 (e▸hi));simp[this,e]
    .exact .inr ⟨k,c,e,z.sameBut hs (vN y c e)⟩
  .obtain⟨w',z⟩:=I.cell y c e;exact⟨w',z.sameBut hs (vN y c e)⟩
  .obtain⟨e,n,ne,nf,d⟩:=I.pin p hp;exact⟨(hs.2 p.1 ne).trans e,n,ne,nf,d⟩
 .have hfn:X.fn x=true:=by
   rcases hf with z|z
   .exact z
   .rw[z]at hk;cases hk
  obtain⟨c,hc⟩:=I.ok.has x (.inl hk);obtain⟨w',z⟩:=I.cell x c hc;refine wpAny_storeName_cell I.ok.kind hk hc z (λh' hc' hs=>?_);obtain⟨oc,hoc,AcG⟩:=id z;refine h {s with heap:=h'} ⟨I.ok,I.os,I.bare,⟨λb o e n hb hx=>?_,λb o e n hb hx=>?_,I.base.free,λb o e hx=>?_,I.base.tups,I.base.jD,I.base.jR⟩,⟨m,hn.sameBut hs (bT (vN x c hc)),λj y v' e1 e2 e3=>?_⟩,λy c' e=>?_,I.free,I.jC,λp hp=>?_,tracked ⟨oc,hoc,I.jC x c hc⟩ hs,by simpa using I.len⟩ ⟨c,hs,.inr hc⟩
  .exact(hs.2 b (dM (Y6 (Y0 e) (I.ok.cab x c hfn hc)))).trans (I.base.keep b o e n hb hx)
  .obtain⟨sl,e1⟩:=I.base.slot b o e n hb hx;exact⟨sl,(hs.2 b (dM (Y6 (Y0 e) (I.ok.cab x c hfn hc)))).trans e1⟩
  .obtain⟨o',e1⟩:=I.base.there b o e hx;exact⟨o',(hs.2 b (dM (Y6 (Y0 e) (I.ok.cab x c hfn hc)))).trans e1⟩
  .by_cases hj:j=i
   .subst hj;rw[hi]at e1;cases e1;rw[jX hiσ]at e2;cases e2;exact⟨u,r,.inr ⟨.inl hk,c,hc,hc'⟩⟩
   .rw[Yz (bT hj)]at e2;obtain⟨u',r',q⟩:=hl j y v' e1 e2 e3;refine⟨u',r',?_⟩;rcases q with q|⟨k,c',e,z'⟩
    .exact .inl q
    .refine .inr ⟨k,c',e,z'.sameBut hs ?_⟩;rintro rfl;exact hj (QL hN e1 (I.ok.inj _ _ _ e hc▸hi))
  .by_cases hcc:c'=c
   .subst hcc;exact⟨_,hc'⟩
   .obtain⟨w2,z2⟩:=I.cell y c' e;exact⟨w2,z2.sameBut hs hcc⟩
  .obtain⟨e,n,ne,nf,d⟩:=I.pin p hp;refine⟨(hs.2 p.1 ?_).trans e,n,ne,nf,d⟩;intro q;rw[q,hoc]at e;have q':oc=p.2:=Y9 e;exact d w' (by rw[←q'];exact AcG)
theorem QM{M:Model}{A:bj}{i:Nat}{x:aj}{v:V}{u:Yd}{Q:Unit->Yf->Prop}(I:Inv X pins σ H s)(hN:X.N.Nodup)(hi:X.N[i]?=Ya x)(hx:Loc X.env.scope x)(r:RelV v u)(h:∀s',Inv X pins (σ.set i (Ya v)) H s'->Q () s')(hf:X.fn x=true\/X.env.scope.names.lookup x=Ya .local:=by first|exact .inl rfl|exact .inr rfl|assumption):Y8 M A (storeName X.env x u) Q E s:=ZjP I hN hi hx r (λs' I' _=>h s' I') hf
theorem Inv.call'{s':Yf}(I:Inv X pins σ H s)(ho:s'.os=s.os)(u:Un (frs X.stack) ch H H' s.heap s'.heap)(hok:fD X.prog X.w H' s'.heap)(hg:q_ s'.gens)(hch:∀b∈ch,(b∈X.ex\/X.s₀.heap.objs.size<=b)/\b≠X.env.locals/\(∀x c,X.env.cells.lookup x=Ya c->c≠b)/\∀p∈X.pn++pins,p.1≠b):Inv X pins σ H' s':=by obtain⟨h',g',d',t',o'⟩:=s';have e:o'=s.os:=ho;subst e;exact I.call (g':=g') (t':=t') (d':=d') u hok hg hch
end
noncomputable abbrev XK:=Yd->Option Ys->Hp->Prop
noncomputable abbrev St:=List (Option V)
noncomputable abbrev VK:=V->Hp->Prop
noncomputable abbrev TE:=St->Hp->VK->Prop
noncomputable abbrev TT:=St->Hp->(Bool->Hp->Prop)->Prop
noncomputable abbrev TA:=St->Hp->(List V->Hp->Prop)->Prop
structure Ends where
 nx:St->Hp->Prop
 rt:VK
 bk:St->Hp->Prop:=λ_ _=>False
 ct:St->Hp->Prop:=λ_ _=>False
noncomputable abbrev TS:=Ends->St->Hp->Prop
inductive EP(X:Cx)(pins:List (Ys×aD))(σ:St)(Q:VK)(u:Yd)(s':Yf):Prop where
 |mk (v:V) (H':Hp) (I:Inv X pins σ H' s') (r:RelV v u) (q:Q v H'):EP X pins σ Q u s'
inductive TP(X:Cx)(pins:List (Ys×aD))(σ:St)(Q:Bool->Hp->Prop)(b:Bool)(s':Yf):Prop where
 |mk (H':Hp) (I:Inv X pins σ H' s') (q:Q b H'):TP X pins σ Q b s'
inductive AP(X:Cx)(pins:List (Ys×aD))(σ:St)(Q:List V->Hp->Prop)(us:List Yd)(s':Yf):Prop where
 |mk (vs:List V) (H':Hp) (I:Inv X pins σ H' s') (r:Vals vs us) (q:Q vs H'):AP X pins σ Q us s'
def SP(X:Cx)(pins:List (Ys×aD))(D:Ends)(f:Flow)(s':Yf):Prop:=
 match f with
 | .next=>∃σ' H',Inv X pins σ' H' s'/\D.nx σ' H'|.brk=>∃σ' H',Inv X pins σ' H' s'/\D.bk σ' H'|.cont=>∃σ' H',Inv X pins σ' H' s'/\D.ct σ' H'|.ret u=>∃v σ' H',Inv X pins σ' H' s'/\RelV v u/\D.rt v H'
def PE(X:Cx)(e:Expr)(t:TE):Prop:=∀(pins:List (Ys×aD)) (s:Yf) (σ:St) (H:Hp) (Q:VK),Inv X pins σ H s->t σ H Q->Y8 (ao X.prog X.w) X.A (aF e X.env) (EP X pins σ Q) X.xe s
def PT(X:Cx)(e:Expr)(t:TT):Prop:=∀(pins:List (Ys×aD)) (s:Yf) (σ:St) (H:Hp) (Q:Bool->Hp->Prop),Inv X pins σ H s->t σ H Q->Y8 (ao X.prog X.w) X.A (isTrue e X.env (aF e X.env)) (TP X pins σ Q) X.xe s
def PW(X:Cx)(e:Expr)(t:TT):Prop:=∀(whole:jW Yd) (pins:List (Ys×aD)) (s:Yf) (σ:St) (H:Hp) (Q:Bool->Hp->Prop),Inv X pins σ H s->t σ H Q->Y8 (ao X.prog X.w) X.A (isTrue e X.env whole) (TP X pins σ Q) X.xe s
theorem PW.pt{X:Cx}{e:Expr}{t:TT}(h:PW X e t):PT X e t:=h _
def PA(X:Cx)(es:List Expr)(t:TA):Prop:=∀(pos:aP) (pins:List (Ys×aD)) (s:Yf) (σ:St) (H:Hp) (Q:List V->Hp->Prop),Inv X pins σ H s->t σ H Q->Y8 (ao X.prog X.w) X.A (Dv (bK pos (Yq es X.env))) (AP X pins σ Q) X.xe s
def PS(X:Cx)(st:Ydr)(t:TS):Prop:=∀(pins:List (Ys×aD)) (s:Yf) (σ:St) (H:Hp) (D:Ends),Inv X pins σ H s->t D σ H->Y8 (ao X.prog X.w) X.A (exec st X.env) (SP X pins D) X.xe s
def iZ(X:Cx)(st:List Ydr)(t:TS):Prop:=∀(pins:List (Ys×aD)) (s:Yf) (σ:St) (H:Hp) (D:Ends),Inv X pins σ H s->t D σ H->Y8 (ao X.prog X.w) X.A (execs st X.env) (SP X pins D) X.xe s
theorem aH{α:Type}{t:jW α}{Q Q':α->Yf->Prop}{M:Model}{A:bj}{s:Yf}(h:Y8 M A t Q E s)(hQ:∀a s,Q a s->Q' a s):Y8 M A t Q' E s:=fj h hQ λ_ _ x=>x
end _L2
namespace _L2
open PySem PySem.Spec PyProof.Rows
section
variable {X:Cx}
def Ep(i:Nat):TE:=λσ H Q=>∃v,σ[i]?=Ya (Ya v)/\Q v H
def tC(v:V):TE:=λ_ H Q=>Q v H
theorem Er{i:Nat}{x:aj}{pos:aP}(hN:X.N[i]?=Ya x)(hv:JD X.env.scope x)(hd:autoParam ((x==("__debug__":aj))=false) qB)(hcd:autoParam ((x==("__classdict__":aj))=false) qB):PE X (.Name x pos) (Ep i):=by
 intro pins s σ H Q I h;obtain⟨v,e,h⟩:=h;obtain⟨m,hn,hl⟩:=I.loc;obtain⟨u,r,l⟩:=hl i x v hN e hv;have fin:EP X pins σ Q u s:=⟨v,H,I,r,h⟩;rcases l with⟨hk,hm⟩|⟨hk,c,hc,hcell⟩
 .exact Oj (wpAny_loadName_local I.ok.kind hk hn hm fin) hd
 .rcases hk with hk|hk
  .exact Oj (wpAny_loadName_cell I.ok.kind hk hc hcell fin) hd
  .exact Oj (wpAny_loadName_free I.ok.kind hk hc hcell fin hcd) hd
theorem QQ{i j pos}:PE X (.Constant (.int i) j pos) (tC (.int i)):=λ_ _ _ H _ I h=>wpAny_Constant_int ⟨.int i,H,I.tok _,⟨_,rfl⟩,h⟩
theorem Zw3{b j pos}:PE X (.Constant (.bool b) j pos) (tC (.bl b)):=λ_ _ _ H _ I h=>Constant_bool ⟨.bl b,H,I,rfl,h⟩
theorem Zu3{j pos}:PE X (.Constant .none j pos) (tC .non):=λ_ _ _ H _ I h=>Constant_none ⟨.non,H,I,rfl,h⟩
theorem QR{x j pos}:PE X (.Constant (.str x) j pos) (tC (.str x)):=λ_ _ _ H _ I h=>Calls.Constant_str ⟨.str x,H,I.tok _,⟨_,rfl⟩,h⟩
def Gl(X:Cx)(x:aj):Prop:=X.env.kindOf x=Ya .globalImplicit
theorem xV{E:Yd->Yf->Prop}{pins:List (Ys×aD)}{s:Yf}{σ:St}{H:Hp}{x:aj}{u:Yd}{pos:aP}{Q:Yd->Yf->Prop}(I:Inv X pins σ H s)(hg:Gl X x)(hm:X.mg x=Ya u)(h:Q u s)(hd:autoParam ((x==("__debug__":aj))=false) qB):Y8 (ao X.prog X.w) X.A (aF (.Name x pos) X.env) Q E s:=Yga I.ok.kind hg (Calls.loadGlobal_global (by rw[I.ok.glob];exact I.mod.glob.keeps I.bk) hm h) hd
theorem xW{E:Yd->Yf->Prop}{pins:List (Ys×aD)}{s:Yf}{σ:St}{H:Hp}{x:aj}{u:Yd}{pos:aP}{Q:Yd->Yf->Prop}(I:Inv X pins σ H s)(hg:Gl X x)(hm:X.mg x=Yj)(hv:jr x=Ya u)(h:Q u s)(hn:autoParam (x≠ "__name__") qB)(hd:autoParam ((x==("__debug__":aj))=false) qB):Y8 (ao X.prog X.w) X.A (aF (.Name x pos) X.env) Q E s:=by obtain⟨mb,h1,h2⟩:=I.mod.blt;exact Yga I.ok.kind hg (Calls.loadGlobal_builtin (by rw[I.ok.glob];exact I.mod.glob.keeps I.bk) hm (by rw[I.ok.blt];exact h1.keeps I.bk) ((h2 x hn).trans hv) h) hd
theorem Ad{x:aj}{v:V}{u:Yd}{pos:aP}(hg:Gl X x)(hm:X.mg x=Ya u)(r:RelV v u)(hd:autoParam ((x==("__debug__":aj))=false) qB):PE X (.Name x pos) (tC v):=λ_ _ _ H _ I h=>xV I hg hm ⟨v,H,I,r,h⟩ hd
theorem QS{x:aj}{v:V}{u:Yd}{pos:aP}(hg:Gl X x)(hm:X.mg x=Yj)(hv:jr x=Ya u)(r:RelV v u)(hn:autoParam (x≠ "__name__") qB)(hd:autoParam ((x==("__debug__":aj))=false) qB):PE X (.Name x pos) (tC v):=λ_ _ _ H _ I h=>xW I hg hm hv ⟨v,H,I,r,h⟩ hn hd
variable {a b:Expr} {ta tb:TE} {pos:aP}
def tB(t:TE):TT:=λσ H Q=>t σ H λx H1=>∃c,x= .bl c/\Q c H1
theorem Zvh{e:Expr}{t:TE}(h:PE X e t)(he:∀whole,isTrue e X.env whole=(do let v ←whole;Ig e.pos;holding [v] (truthy v)):=by intro _;rfl):PT X e (tB t):=by intro pins s σ H Q I hw;refine isTrue_plain (aH (h pins s σ H _ I hw) λv s1 ak=>?_) (he _);obtain⟨x,H1,I1,r1,q1⟩:=ak;obtain⟨d,rfl,q⟩:=q1;cases r1;exact tQ ⟨H1,I1,q⟩
variable {tA JG:TT} {rest:List Expr}
def ZxQ(t u:TT):TT:=λσ H Q=>t σ H λc H1=>if c=true then u σ H1 Q else Q false H1
def tOr(t u:TT):TT:=λσ H Q=>t σ H λc H1=>if c=true then Q true H1 else u σ H1 Q
def Zyp(t:TT):TT:=λσ H Q=>t σ H λc H1=>Q (!c) H1
theorem ZsM(ha:PT X a tA):PW X (.BoolOp .And [a] pos) tA:=by
 intro wh pins s σ H Q I h;refine isTrue_and (aH (ha pins s σ H Q I h) λc s1 e=>?_);cases c with
 |true=>exact isTrue_and_nil e|false=>exact e
theorem ZuK(ha:PT X a tA):PW X (.BoolOp .Or [a] pos) tA:=by
 intro wh pins s σ H Q I h;refine isTrue_or (aH (ha pins s σ H Q I h) λc s1 e=>?_);cases c with
 |false=>exact isTrue_or_nil e|true=>exact e
theorem ZuI(ha:PT X a tA)(hb:PW X (.BoolOp .And (b::rest) pos) JG):PW X (.BoolOp .And (a::b::rest) pos) (ZxQ tA JG):=by
 intro wh pins s σ H Q I h;refine isTrue_and (aH (ha pins s σ H _ I h) λc s1 ak=>?_);obtain⟨H1,I1,q1⟩:=ak;cases c with
 |true=>exact hb wh pins s1 σ H1 Q I1 q1|false=>exact⟨H1,I1,q1⟩
theorem Zw4(ha:PT X a tA)(hb:PW X (.BoolOp .Or (b::rest) pos) JG):PW X (.BoolOp .Or (a::b::rest) pos) (tOr tA JG):=by
 intro wh pins s σ H Q I h;refine isTrue_or (aH (ha pins s σ H _ I h) λc s1 ak=>?_);obtain⟨H1,I1,q1⟩:=ak;cases c with
 |true=>exact⟨H1,I1,q1⟩|false=>exact hb wh pins s1 σ H1 Q I1 q1
theorem Zt9(ha:PT X a tA):PT X (.UnaryOp .Not a pos) (Zyp tA):=by intro pins s σ H Q I h;exact isTrue_not (aH (ha pins s σ H (λc H1=>Q (!c) H1) I h) λc s' ⟨H',I',q⟩=>⟨H',I',q⟩)
def Zwm(ta tb:TE):TE:=λσ H Q=>ta σ H λx H1=>∃c,x= .bl c/\if c=true then tb σ H1 Q else Q (.bl false) H1
def Zyi(ta tb:TE):TE:=λσ H Q=>ta σ H λx H1=>∃c,x= .bl c/\if c=true then Q (.bl true) H1 else tb σ H1 Q
def ZwW(ta:TE):TE:=λσ H Q=>ta σ H λx H1=>∃c,x= .bl c/\Q (.bl (!c)) H1
theorem Zuq{op}{t:TE}(h:PE X a t):PE X (.BoolOp op [a] pos) t:=λpins s σ H Q I hw=>BoolOp_one (h pins s σ H Q I hw)
theorem ZtM(ha:PE X a ta)(hb:PE X (.BoolOp .And (b::rest) pos) tb):PE X (.BoolOp .And (a::b::rest) pos) (Zwm ta tb):=by
 intro pins s σ H Q I h;refine BoolOp_and (aH (ha pins s σ H _ I h) λv s1 ak=>?_);obtain⟨x,H1,I1,r1,q1⟩:=ak;obtain⟨c,rfl,q1⟩:=q1;cases r1;refine tQ ?_;cases c with
 |true=>exact hb pins s1 σ H1 Q I1 q1|false=>exact⟨.bl false,H1,I1,rfl,q1⟩
theorem Zw7(ha:PE X a ta)(hb:PE X (.BoolOp .Or (b::rest) pos) tb):PE X (.BoolOp .Or (a::b::rest) pos) (Zyi ta tb):=by
 intro pins s σ H Q I h;refine BoolOp_or (aH (ha pins s σ H _ I h) λv s1 ak=>?_);obtain⟨x,H1,I1,r1,q1⟩:=ak;obtain⟨c,rfl,q1⟩:=q1;cases r1;refine tQ ?_;cases c with
 |false=>exact hb pins s1 σ H1 Q I1 q1|true=>exact⟨.bl true,H1,I1,rfl,q1⟩
theorem Zvl(ha:PE X a ta):PE X (.UnaryOp .Not a pos) (ZwW ta):=by intro pins s σ H Q I h;refine UnaryOp_ (aH (ha pins s σ H _ I h) λv s1 ak=>?_);obtain⟨x,H1,I1,r1,q1⟩:=ak;obtain⟨c,rfl,q1⟩:=q1;cases r1;exact not_of (tQ ⟨.bl (!c),H1,I1,rfl,q1⟩)
def QT(t:TT)(ta tb:TE):TE:=λσ H Q=>t σ H λc H1=>if c=true then ta σ H1 Q else tb σ H1 Q
theorem Zqo{c:Expr}(hc:PT X c tA)(ha:PE X a ta)(hb:PE X b tb):PE X (.IfExp c a b pos) (QT tA ta tb):=by
 intro pins s σ H Q I h;refine wpAny_IfExp (aH (hc pins s σ H _ I h) λd s1 ak=>?_);obtain⟨H1,I1,q1⟩:=ak;cases d with
 |true=>exact ha pins s1 σ H1 Q I1 q1|false=>exact hb pins s1 σ H1 Q I1 q1
end
end _L2
namespace _L2
open PySem PySem.Spec PyProof.Rows
def bD(K:Yb)(H:Hp)(a:Ys)(xs:List V):Prop:=
 Rd H a (.lst xs)\/
  ∃(o:aD) (its:Array Yd) (n:Nat),K.lookup a=Ya o/\o.cls= .type "list" /\o.dict=Yj/\o.data= .seq its n/\its.size<=bF/\Vals xs its.toList
def cM(K:Yb)(H:Hp)(a:Ys)(xs:List V):Prop:=
 Rd H a (.tup xs)\/
  ∃(o:aD) (its:Array Yd) (n:Nat),K.lookup a=Ya o/\(o.cls= .type "tuple" /\o.dict=Yj)/\o.data= .seq its n/\its.size<=bF/\Vals xs its.toList
noncomputable def Zyw:Yd->Option V
 | .none=>Ya .non|.bool b=>Ya (.bl b)|.int i _=>Ya (.int i)|.str x _=>Ya (.str x)
 | .bytes b _=>Ya (.Aa b)|.float b _=>Ya (.flt b)|.ref a=>Ya (.ref a)|.type n=>Ya (.ty n)
 |_=>Yj
theorem RelV.abs{x:V}{u:Yd}(r:RelV x u):Zyw u=Ya x:=by
 cases x with
 |non=>cases r;rfl|bl _=>cases r;rfl|int _=>obtain⟨t,rfl⟩:=r;rfl|str _=>obtain⟨t,rfl⟩:=r;rfl
 |Aa _=>obtain⟨t,rfl⟩:=r;rfl|flt _=>obtain⟨t,rfl⟩:=r;rfl|ref _=>cases r;rfl|ty _=>cases r;rfl
theorem RelV.inj{x y:V}{u:Yd}(r:RelV x u)(q:RelV y u):x=y:=Y9 (r.abs.symm.trans q.abs)
theorem Vals.inj:∀{xs ys:List V} {us:List Yd},Vals xs us->Vals ys us->xs=ys
 |_,_,_,.nil,.nil=>rfl|_,_,_,.cons r t,.cons r' t'=>by rw[r.inj r',Vals.inj t t']
variable{K:Yb}
section
variable {X:Cx} {pins:List (Ys×aD)} {σ:St} {H:Hp} {s:Yf} {a:Ys} {xs ys:List V}
theorem bD.of(h:H a=Ya (.lst xs)):bD K H a xs:=.inl (.inl h)
theorem cM.of(h:H a=Ya (.tup xs)):cM K H a xs:=.inl (.inl h)
theorem Inv.list(I:Inv X pins σ H s)(h:bD X.K H a xs):∃its:List Yd,Vals xs its/\PlainL s.heap a its.toArray/\xs.length<=bF:=by
 rcases h with h|⟨o,its,n,hk,hc,hd,hs,hz,r⟩
 .obtain⟨z,its,n,r,e⟩:=h.ok I.hok;exact⟨its,r,⟨_,n,e,rfl,rfl,rfl⟩,z⟩
 .refine⟨its.toList,r,⟨o,n,I.bN a o hk,hc,hd,by simpa using hs⟩,?_⟩;have e:=r.length;simp only[Qe]at e;exact lC 2 2199576973345 T1 e hz
theorem Inv.tuple(I:Inv X pins σ H s)(h:cM X.K H a xs):∃its:List Yd,Vals xs its/\IsTup s.heap a its.toArray/\xs.length<=bF:=by
 rcases h with h|⟨o,its,n,hk,hc,hs,hz,r⟩
 .obtain⟨z,its,r,p⟩:=h.ok I.hok;exact⟨its,r,p.tup,z⟩
 .refine⟨its.toList,r,⟨o,I.bN a o hk,hc.1,n,by simpa using hs⟩,?_⟩;have e:=r.length;simp only[Qe]at e;exact lC 2 2199576973345 T1 e hz
theorem Inv.MK(I:Inv X pins σ H s)(h:bD X.K H a xs)(h':bD X.K H a ys):xs=ys:=by
 obtain⟨its,r,⟨o,n,e,_,_,d⟩,_⟩:=I.list h;obtain⟨its',r',⟨o',n',e',_,_,d'⟩,_⟩:=I.list h';rw[e]at e';cases e';rw[d]at d';injection d' with d1 _;have:its=its':=by simpa using congrArg z8 d1
 subst this;exact r.inj r'
theorem Inv.Mx(I:Inv X pins σ H s)(h:cM X.K H a xs)(h':cM X.K H a ys):xs=ys:=by
 obtain⟨its,r,⟨o,e,_,n,d⟩,_⟩:=I.tuple h;obtain⟨its',r',⟨o',e',_,n',d'⟩,_⟩:=I.tuple h';rw[e]at e';cases e';rw[d]at d';injection d' with d1 _;have:its=its':=by simpa using congrArg z8 d1
 subst this;exact r.inj r'
end
noncomputable abbrev Cx.wish(X:Cx)(E:Yd->Yf->Prop):Cx:={X with xe:=E}
noncomputable abbrev Cx.iu(X:Cx):Cx:=X.wish λ_ _=>False
theorem Cx.Ok.wish{X:Cx}(ok:X.Ok)(E:Yd->Yf->Prop):(X.wish E).Ok:=⟨ok.mod,ok.kind,ok.glob,ok.blt,ok.above,ok.inj,ok.has,ok.cab,ok.hd,ok.frames,ok.Ab,ok.Ac,ok.bs,ok.mX,ok.wQ,ok.uY,ok.jE,ok.pM⟩
theorem Cx.Ok.mL{X:Cx}{E:Yd->Yf->Prop}(ok:(X.wish E).Ok):X.Ok:=⟨ok.mod,ok.kind,ok.glob,ok.blt,ok.above,ok.inj,ok.has,ok.cab,ok.hd,ok.frames,ok.Ab,ok.Ac,ok.bs,ok.mX,ok.wQ,ok.uY,ok.jE,ok.pM⟩
variable{e:Expr}
section
variable {X:Cx} {pins:List (Ys×aD)} {σ:St} {H:Hp} {s:Yf} {E:Yd->Yf->Prop}
theorem Inv.wish(I:Inv X pins σ H s)(E:Yd->Yf->Prop):Inv (X.wish E) pins σ H s:=⟨I.ok.wish E,I.os,I.bare,I.base,I.loc,I.cell,I.free,I.jC,I.pin,I.hok,I.len⟩
theorem Inv.mL(I:Inv (X.wish E) pins σ H s):Inv X pins σ H s:=⟨I.ok.mL,I.os,I.bare,I.base,I.loc,I.cell,I.free,I.jC,I.pin,I.hok,I.len⟩
theorem SP.mL{D:Ends}{f:Flow}{s':Yf}(h:SP (X.wish E) pins D f s'):SP X pins D f s':=by
 cases f with
 |next=>obtain⟨σ',H',I,q⟩:=h;exact⟨σ',H',I.mL,q⟩|brk=>obtain⟨σ',H',I,q⟩:=h;exact⟨σ',H',I.mL,q⟩|cont=>obtain⟨σ',H',I,q⟩:=h;exact⟨σ',H',I.mL,q⟩|ret u=>obtain⟨v,σ',H',I,r,q⟩:=h;exact⟨v,σ',H',I.mL,r,q⟩
theorem PE.iu{t:TE}(h:PE X.iu e t):PE X e t:=λpins s σ H Q I hw=>fj (h pins s σ H Q (I.wish _) hw) (λ_ _ ⟨v,H',I',r,q⟩=>⟨v,H',I'.mL,r,q⟩) λ_ _ z=>dR z
theorem PT.iu{t:TT}(h:PT X.iu e t):PT X e t:=λpins s σ H Q I hw=>fj (h pins s σ H Q (I.wish _) hw) (λ_ _ ⟨H',I',q⟩=>⟨H',I'.mL,q⟩) λ_ _ z=>dR z
theorem iZ.iu{st:List Ydr}{t:TS}(h:iZ X.iu st t):iZ X st t:=λpins s σ H D I hw=>fj (h pins s σ H D (I.wish _) hw) (λ_ _ q=>q.mL) λ_ _ z=>dR z
end
section
variable {X:Cx} {st:Ydr} {rest:List Ydr} {t u:TS} {e:Expr} {te:TE} {pos:aP}
def ZwB:TS:=λD σ H=>D.nx σ H
def Zwn(t u:TS):TS:=λD σ H=>t {D with nx:=u D} σ H
theorem Zr4:iZ X [] ZwB:=λ_ _ σ H _ I h=>Dl ⟨σ,H,I,h⟩
theorem QV(h1:PS X st t)(h2:iZ X rest u):iZ X (st::rest) (Zwn t u):=by
 intro pins s σ H D I h;refine Xb (aH (h1 pins s σ H {D with nx:=u D} I h) λf s1 q=>?_);cases f with
 |next=>obtain⟨σ',H',I',q⟩:=q;exact h2 pins s1 σ' H' D I' q|ret v=>exact q|brk=>exact q
 |cont=>exact q
theorem QW(h1:PS X st t):iZ X [st] t:=by
 intro pins s σ H D I h;refine Xb (aH (h1 pins s σ H D I h) λf s1 q=>?_);cases f with
 |next=>exact Dl q|ret v=>exact q|brk=>exact q|cont=>exact q
theorem Inv.quiet{pins:List (Ys×aD)}{σ:St}{H:Hp}{s:Yf}(I:Inv X pins σ H s):interactive X.env=false:=by simp[interactive,I.ok.kind]
def Ztx(te:TE):TS:=λD σ H=>te σ H λ_ H1=>D.nx σ H1
theorem ZnT(he:PE X e te)(hs:autoParam (tR e Yj pos.line X.env=pure false) qA):PS X (.Expr e pos) (Ztx te):=by intro pins s σ H D I h;exact wpAny_Expr_any (aH (he pins s σ H _ I h) λv s1 ⟨x,H1,I1,r1,q1⟩=>⟨σ,H1,I1,q1⟩) I.quiet hs
def Zyb(te:TE):TS:=λD σ H=>te σ H D.rt
theorem ZpZ(he:PE X e te):PS X (.Return (Ya e) pos) (Zyb te):=by intro pins s σ H D I h;exact wpAny_Return_some (aH (he pins s σ H _ I h) λv s1 ⟨x,H1,I1,r1,q1⟩=>⟨x,σ,H1,I1,r1,q1⟩)
def Zyr(c:TT)(t u:TS):TS:=λD σ H=>c σ H λb H1=>if b=true then t D σ H1 else u D σ H1
theorem ZtF{c:Expr}{a b:List Ydr}{tc:TT}(hc:PT X c tc)(ha:iZ X a t)(hb:iZ X b u):PS X (.If c a b pos) (Zyr tc t u):=by
 intro pins s σ H D I h;refine wpAny_If (aH (hc pins s σ H _ I h) λd s1 ak=>?_);obtain⟨H1,I1,q1⟩:=ak;cases d with
 |true=>exact ha pins s1 σ H1 D I1 q1|false=>exact hb pins s1 σ H1 D I1 q1
end
noncomputable abbrev TG:=V->St->Hp->(St->Hp->Prop)->Prop
noncomputable abbrev t7:=List V->St->Hp->(St->Hp->Prop)->Prop
def PG(X:Cx)(target:Expr)(t:TG):Prop:=
 ∀(pins:List (Ys×aD)) (s:Yf) (σ:St) (H:Hp) (v:V) (u:Yd) (Q:St->Hp->Prop),Inv X pins σ H s->RelV v u->t v σ H Q ->
  Y8 (ao X.prog X.w) X.A (pH target X.env u) (λ_ s'=>∃σ' H',Inv X pins σ' H' s'/\Q σ' H') X.xe s
def rE(X:Cx)(ts:List Expr)(t:t7):Prop:=
 ∀(pins:List (Ys×aD)) (s:Yf) (σ:St) (H:Hp) (vs:List V) (us:List Yd) (Q:St->Hp->Prop),Inv X pins σ H s->Vals vs us->t vs σ H Q ->
  Y8 (ao X.prog X.w) X.A (assignInOrder ((pD ts X.env).map (·.2)) us) (λ_ s'=>∃σ' H',Inv X pins σ' H' s'/\Q σ' H') X.xe s
variable{tg:Expr}
section
variable {X:Cx} {pos:aP}
def Zto(i:Nat):TG:=λv σ H Q=>Q (σ.set i (Ya v)) H
theorem Zom{i:Nat}{x:aj}(hN:X.N.Nodup)(hi:X.N[i]?=Ya x)(hx:Loc X.env.scope x)(hf:X.fn x=true\/X.env.scope.names.lookup x=Ya .local:=by first|exact .inl rfl|exact .inr rfl|assumption):PG X (.Name x pos) (Zto i):=by intro pins s σ H v u Q I r h;exact W8 (QM I hN hi hx r (λs' I'=>⟨_,H,I',h⟩) hf)
def Zx7:t7:=λvs σ H Q=>vs=[]/\Q σ H
def ZwU(t:TG)(u:t7):t7:=λvs σ H Q=>∃v r,vs=v::r/\t v σ H λσ' H'=>u r σ' H' Q
theorem ZsV:rE X [] Zx7:=by intro pins s σ H vs us Q I r h;obtain⟨e,h⟩:=h;subst e;cases r;exact assignInOrder_nil ⟨σ,H,I,h⟩
theorem ZrA{es:List Expr}{t:TG}{u:t7}(h1:PG X e t)(h2:rE X es u)(hs:autoParam ((pD (e::es) X.env).map (·.2)=pH e X.env::(pD es X.env).map (·.2)) qA):rE X (e::es) (ZwU t u):=by
 intro pins s σ H vs us Q I r h;obtain⟨v,vr,e1,h⟩:=h;subst e1;cases r with
 |cons r rr=>rw[hs];refine assignInOrder_cons (aH (h1 pins s σ H _ _ _ I r h) λ_ s1 ak=>?_);obtain⟨σ1,H1,I1,q1⟩:=ak;exact h2 pins s1 σ1 H1 _ _ Q I1 rr q1
def Zyl(K:Yb)(n:Nat)(t:t7):TG:=λv σ H Q=>∃a xs,v= .ref a/\cM K H a xs/\xs.length=n/\t xs σ H Q
theorem Zvb{es:List Expr}{k:Nat}{t:t7}{n:Nat}(hc:X.calm=true)(h:rE X es t)(hn:autoParam ((pD es X.env).length=n) qA)(hst:autoParam ((pD es X.env).findIdx? (·.1)=Yj) qA):PG X (.Tuple es k pos) (Zyl X.K n t):=by intro pins s σ H v u Q I r hw;obtain⟨a,xs,e1,hq,hl,hw⟩:=hw;subst e1;cases r;obtain⟨its,rv,ht,hz⟩:=I.tuple hq;refine assign_Tuple_tuple (I.ok.hd hc) ht (by simp[hn,←hl,rv.length]) hst λh' hx=>?_;have I1:Inv X pins σ H {s with heap:=h'}:=I.kept (t':=s.toks) λb o e=>hx b o (dM (Y0 e)) e;exact h pins _ σ H xs _ Q I1 (by simpa using rv) hw
def Zwl(te:TE)(g:TG):TS:=λD σ H=>te σ H λx H1=>g x σ H1 D.nx
theorem ZuJ{te:TE}{g:TG}(he:PE X e te)(hg:PG X tg g)(hs:autoParam (swapsWithSole [tg] e pos.line X.env=pure false) qA)(hw:autoParam (swappedStores [tg] e X.env=pure Yj) qA)(h1:autoParam ((pD [tg] X.env).map (·.2)=[pH tg X.env]) qA):PS X (.Assign [tg] e pos) (Zwl te g):=by intro pins s σ H D I h;refine wpAny_Assign_stores (aH (he pins s σ H _ I h) λv s1 ak=>?_) hs hw;obtain⟨x,H1,I1,r1,q1⟩:=ak;rw[h1];exact aH (hg pins s1 σ H1 x v _ I1 r1 q1) λ_ s2 q=>q
theorem Zrs{i:Nat}{x:aj}{te:TE}{pos':aP}(hN:X.N.Nodup)(hi:X.N[i]?=Ya x)(hx:Loc X.env.scope x)(he:PE X e te)(hs:autoParam (tR e (Ya (.Name x pos')) pos.line X.env=pure false) qA)(hf:X.fn x=true\/X.env.scope.names.lookup x=Ya .local:=by first|exact .inl rfl|exact .inr rfl|assumption):
  PS X (.Assign [.Name x pos'] e pos) (Zwl te (Zto i)):=by
 intro pins s σ H D I h;refine wpAny_Assign_Name (aH (he pins s σ H _ I h) λv s1 ak=>?_) hs;obtain⟨y,H1,I1,r1,q1⟩:=ak;exact QM I1 hN hi hx r1 (λs2 I2=>⟨_,H1,I2,q1⟩) hf
end
section
variable {X:Cx} {pos:aP}
def Zui(c:TT)(tb:TS):TS:=λD σ H=>∃W:Nat->St->Hp->Prop,(∃m,W m σ H)/\∀m σ H,W m σ H ->
 c σ H λb H1=>if b=true then∃N:St->Hp->Prop,(∀σ' H',N σ' H'->∃m',m'<m/\W m' σ' H')/\tb {D with nx:=N,ct:=N,bk:=D.nx} σ H1 else D.nx σ H1
theorem Zrj{c:Expr}{body:List Ydr}{tc:TT}{tb:TS}(hp:Oq (ao X.prog X.w) X.A X.env X.xe)(hc:PT X c tc)(hb:iZ X body tb):PS X (.While c body [] pos) (Zui tc tb):=by
 intro pins s σ H D I h;obtain⟨W,⟨m0,w0⟩,turn⟩:=h;refine wpAny_While (codeAny_whileLoop (λn s'=>∃σ' H',Inv X pins σ' H' s'/\W n σ' H') ?_ m0 ⟨σ,H,I,w0⟩);rintro n s1 ⟨σ1,H1,I1,w1⟩;refine wZ hp (aH (hc pins s1 σ1 H1 _ I1 (turn n σ1 H1 w1)) λb s2 ak=>?_);obtain⟨H2,I2,q2⟩:=ak;cases b with
 | true=>
  obtain⟨N,hN,q2⟩:=q2;rw[if_pos rfl];refine wZ hp (aH (hb pins s2 σ1 H2 _ I2 q2) λf s3 q3=>?_);cases f with
  |next=>obtain⟨σ3,H3,I3,n3⟩:=q3;obtain⟨m',hm,w3⟩:=hN σ3 H3 n3;exact⟨m',hm,σ3,H3,I3,w3⟩|cont=>obtain⟨σ3,H3,I3,n3⟩:=q3;obtain⟨m',hm,w3⟩:=hN σ3 H3 n3;exact⟨m',hm,σ3,H3,I3,w3⟩|brk=>exact q3|ret v=>exact q3
 |false=>rw[if_neg oA];exact Dl ⟨σ1,H2,I2,q2⟩
end
structure It where
 go:Nat->Hp->Prop
 JH:Nat->Hp->V->Hp->Prop
 stop:Nat->Hp->Prop
def gR(X:Cx)(pins:List (Ys×aD))(H:Hp)(b:Ys):Prop:=H b=Yj/\b≠X.env.locals/\b∉X.fs/\(b∈X.ex\/X.s₀.heap.objs.size<=b)/\(∀x c,X.env.cells.lookup x=Ya c->c≠b)/\∀p∈X.pn++pins,p.1≠b
theorem Inv.u0{X:Cx}{pins:List (Ys×aD)}{σ:St}{H H':Hp}{s:Yf}{b:Ys}(I:Inv X pins σ H s)(hb:s.heap.objs.size<=b)(hn:H' b=Yj):gR X pins H' b:=by
 refine⟨hn,xN (Y6 I.lt hb),I.AcF hb,.inr (Yp I.sz hb),λx c e z=>?_,λp hp z=>?_⟩
 .obtain⟨v,q⟩:=I.cell x c e;exact absurd (Y6 q.lt (by rw[z];exact hb)) (vH _)
 .exact absurd (Y6 (Y0 (I.pin p hp).1) (by rw[z];exact hb)) (vH _)
structure Turn(P:aZ)(w:aU)(K:Yb)(tg:Expr)(J:It)(fp:List Ys)(it:Ys)(tn:Nat->au->Prop):Prop where
 mem:it∈fp
 obj:∀i h,tn i h->∀b∈fp,∃o,h.get? b=Ya o/\∀v,o.data≠ .cell v
 keep:∀i h h',tn i h->(∀b∈fp,∀o,h.get? b=Ya o->h'.get? b=Ya o)->tn i h'
 item:∀(X:Cx),X.prog=P->X.w=w->X.K=K->X.calm=true->∀(i:Nat) (pins:List (Ys×aD)) (s:Yf) (σ:St) (H:Hp) (E:Yd->Yf->Prop),Inv X pins σ H s->(∀b∈fp,gR X pins H b)->tn i s.heap->J.go i H ->
  Y8 (ao P w) X.A (vo (.ref it)) (λr s1=>∃u,r=Ya u/\
   Y8 (ao P w) X.A (Dm tg (.ref it) u) (λ_ s2=>∃x H',Inv X pins σ H' s2/\RelV x u/\J.JH i H x H'/\tn (i+1) s2.heap/\∀b∈fp,H' b=Yj) E s1) E s
 done:∀(X:Cx),X.prog=P->X.w=w->X.K=K->X.calm=true->∀(i:Nat) (pins:List (Ys×aD)) (s:Yf) (σ:St) (H:Hp) (E:Yd->Yf->Prop),Inv X pins σ H s->(∀b∈fp,gR X pins H b)->tn i s.heap->J.stop i H ->
  Y8 (ao P w) X.A (vo (.ref it)) (λr s1=>r=Yj/\Inv X pins σ H s1) E s
 self:∀(A:bj) (i:Nat) (s:Yf) (Q:Yd->Yf->Prop) (E:Yd->Yf->Prop),tn i s.heap->Q (.ref it) s->Y8 (ao P w) A (zH (.ref it)) Q E s
noncomputable abbrev TI:=St->Hp->(It->Hp->Prop)->Prop
def PIE(X:Cx)(pins:List (Ys×aD))(σ:St)(tg:Expr)(R:It->Hp->Prop)(itv:Yd)(s2:Yf):Prop:=∃(it:Ys) (fp:List Ys) (tn:Nat->au->Prop) (J:It) (H':Hp),itv= .ref it/\Inv X pins σ H' s2/\Turn X.prog X.w X.K tg J fp it tn/\tn 0 s2.heap/\(∀b∈fp,gR X pins H' b)/\R J H'
def PI(X:Cx)(tg iter:Expr)(wi:TI):Prop:=
 ∀(pins:List (Ys×aD)) (s:Yf) (σ:St) (H:Hp) (R:It->Hp->Prop),Inv X pins σ H s->wi σ H R ->
  Y8 (ao X.prog X.w) X.A (aF iter X.env) (λv s1=>Y8 (ao X.prog X.w) X.A (zH v) (PIE X pins σ tg R) X.xe s1) X.xe s
theorem JK{M:Model}{A:bj}{E:Yd->Yf->Prop}{s:Yf}{it:Ys}{u:Yd}{o:aD}{n:String}{vs:Array Yd}{Q:Unit->Yf->Prop}(ho:s.heap.get? it=Ya o)(hc:o.cls= .type n)(hd:o.data= .fields vs)(hn:["enumerate","zip","dict_itemiterator","dict_reverseitemiterator","odict_iterator","itertools.zip_longest","itertools.pairwise"].contains n=false)(hQ:Q () s):Y8 M A (Dm tg (.ref it) u) Q E s:=by
 unfold Dm;cases tg<;>first
  |exact Yn hQ
  | (cases u<;>first
    |exact Yn hQ
    | (refine Yc (wpAny_load ho ?_)
       rw[hc,hd];show Y8 M A (if(["enumerate","zip","dict_itemiterator","dict_reverseitemiterator","odict_iterator","itertools.zip_longest","itertools.pairwise"].contains n&&vs[0]?==Ya (jV _))=true then _ else _) Q E s;rw[if_neg (by intro h;rw[hn,Pz]at h;cases h)];exact Yn hQ))
noncomputable def Itl(K:Yb)(a:Ys):It:=⟨λi H=>∃xs x,bD K H a xs/\xs[i]?=Ya x,λi H x H'=>H'=H/\∀xs,bD K H a xs->xs[i]?=Ya x,λi H=>∃xs,bD K H a xs/\xs.length<=i⟩
noncomputable def Itt(K:Yb)(a:Ys):It:=⟨λi H=>∃xs x,cM K H a xs/\xs[i]?=Ya x,λi H x H'=>H'=H/\∀xs,cM K H a xs->xs[i]?=Ya x,λi H=>∃xs,cM K H a xs/\xs.length<=i⟩
noncomputable def JL(lo:Int)(n:Nat):It:=⟨λi _=>i<n,λi H x H'=>H'=H/\x= .int (lo+i),λi _=>n<=i⟩
theorem ZoP{P:aZ}{w:aU}(a it:Ys):Turn P w K tg (Itl K a) [it] it (λi h=>h.IsListIter it a i)where
 mem:=by simp
 obj:=λi h st b hb=>by
  have e:b=it:=by simpa using hb
  subst e;obtain⟨o,e,c,d⟩:=st;exact⟨o,e,λv z=>by rw[d]at z;cases z⟩
 keep:=λi h h' st k=>st.at λo e=>k it (by simp) o e
 item:=by intro X hP hw hK hc i pins s σ H E I hf st hg;subst hP hw hK;obtain⟨xs,x,hq,hx⟩:=hg;obtain⟨its,rv,p,hz⟩:=I.list hq;obtain⟨u,hu,ru⟩:=rv.get hx;obtain⟨f0,f1,f2,f3,f4,f5⟩:=hf it (by simp);refine wpAny_pyNext_list_item st p.isList (x:=u) (by simpa using hu) λh' st' sb=>?_;have I1:Inv X pins σ H {s with heap:=h'}:=I.turned (t':=s.toks) (λb o hb e=>(sb.2 b hb).trans e) f0 f1 f3 f4 f5;obtain⟨o,e,c,d⟩:=id st';exact⟨u,rfl,JK (s:={s with heap:=h'}) e c d (by decide) ⟨x,H,I1,ru,⟨rfl,λys hy=>by rw[I.MK hy hq];exact hx⟩,st',λb hb=>(hf b hb).1⟩⟩
 done:=by intro X hP hw hK hc i pins s σ H E I hf st hg;subst hP hw hK;obtain⟨xs,hq,hx⟩:=hg;obtain⟨its,rv,p,hz⟩:=I.list hq;obtain⟨f0,f1,f2,f3,f4,f5⟩:=hf it (by simp);have hl:=rv.length;exact wpAny_pyNext_list_end (I.ok.hd hc) st p.isList (by simp;exact lC 2 2268279672881 T1 hl hx) λh' eb=>⟨rfl,I.turned (t':=s.toks) (λb o hb e=>eb b o hb e) f0 f1 f3 f4 f5⟩
 self:=λ_ _ _ _ _ st h=>wpAny_pyIter_listiter st h
theorem ZmW{P:aZ}{w:aU}(a it:Ys):Turn P w K tg (Itt K a) [it] it (λi h=>h.IsTupleIter it a i)where
 mem:=by simp
 obj:=λi h st b hb=>by
  have e:b=it:=by simpa using hb
  subst e;obtain⟨o,e,c,d⟩:=st;exact⟨o,e,λv z=>by rw[d]at z;cases z⟩
 keep:=λi h h' st k=>st.at λo e=>k it (by simp) o e
 item:=by intro X hP hw hK hc i pins s σ H E I hf st hg;subst hP hw hK;obtain⟨xs,x,hq,hx⟩:=hg;obtain⟨its,rv,p,hz⟩:=I.tuple hq;obtain⟨u,hu,ru⟩:=rv.get hx;obtain⟨f0,f1,f2,f3,f4,f5⟩:=hf it (by simp);refine wpAny_pyNext_tuple_item st (show s.heap.IsTuple a its.toArray from p) (x:=u) (by simpa using hu) λh' st' sb=>?_;have I1:Inv X pins σ H {s with heap:=h'}:=I.turned (t':=s.toks) (λb o hb e=>(sb.2 b hb).trans e) f0 f1 f3 f4 f5;obtain⟨o,e,c,d⟩:=id st';exact⟨u,rfl,JK (s:={s with heap:=h'}) e c d (by decide) ⟨x,H,I1,ru,⟨rfl,λys hy=>by rw[I.Mx hy hq];exact hx⟩,st',λb hb=>(hf b hb).1⟩⟩
 done:=by intro X hP hw hK hc i pins s σ H E I hf st hg;subst hP hw hK;obtain⟨xs,hq,hx⟩:=hg;obtain⟨its,rv,p,hz⟩:=I.tuple hq;obtain⟨f0,f1,f2,f3,f4,f5⟩:=hf it (by simp);have hl:=rv.length;exact wpAny_pyNext_tuple_end (I.ok.hd hc) st (show s.heap.IsTuple a its.toArray from p) (by simp;exact lC 2 2268279672881 T1 hl hx) λh' eb=>⟨rfl,I.turned (t':=s.toks) (λb o hb e=>eb b o hb e) f0 f1 f3 f4 f5⟩
 self:=λ_ _ _ _ _ st h=>wpAny_pyIter_tupleiter st h
theorem Zmv{P:aZ}{w:aU}(it:Ys)(lo:Int)(n:Nat):Turn P w K tg (JL lo n) [it] it (λi h=>IsRangeIter h it (lo+(i:Nat)*1) ((n:Int)-(i:Nat)) 1)where
 mem:=by simp
 obj:=λi h st b hb=>by
  have e:b=it:=by simpa using hb
  subst e;exact⟨_,st,λv z=>by have z':Data.fields _=Data.cell v:=z;cases z'⟩
 keep:=λi h h' st k=>k it (by simp) _ st
 item:=by intro X hP hw hK hc i pins s σ H E I hf st hg;subst hP hw hK;obtain⟨f0,f1,f2,f3,f4,f5⟩:=hf it (by simp);have W:=Walks.range (prog:=X.prog) (w:=X.w) (I.ok.hd hc) it lo 1 n;refine W.item i s _ _ hg st λv h' tk hv st' kk=>?_;obtain⟨t,rfl⟩:=hv;have I1:Inv X pins σ H {s with heap:=h',toks:=tk}:=I.turned (λb o hb e=>kk b o (by simpa using hb) e) f0 f1 f3 f4 f5;refine⟨_,rfl,JK (s:={s with heap:=h',toks:=tk}) (n:="range_iterator") st' rfl rfl (by decide) ⟨.int (lo+i),H,I1,⟨t,?_⟩,⟨rfl,rfl⟩,st',λb hb=>(hf b hb).1⟩⟩;rw[Int.mul_one]
 done:=by intro X hP hw hK hc i pins s σ H E I hf st hg;subst hP hw hK;obtain⟨f0,f1,f2,f3,f4,f5⟩:=hf it (by simp);exact wpAny_pyNext_range_end (I.ok.hd hc) st (by have:n<=i:=hg;exact iN [_,_] [] 1 0xe1808f81001 T1 this) λh' eb=>⟨rfl,I.turned (t':=s.toks) (λb o hb e=>eb b o hb e) f0 f1 f3 f4 f5⟩
 self:=λ_ _ _ _ _ st h=>wpAny_pyIter_rangeiter st h
end _L2
namespace _L2
open PySem PySem.Spec PyProof.Rows
variable{pins:List (Ys×aD)}{fp:List Ys}
section
variable {X:Cx} {tg:Expr}
def ZwR(K:Yb)(tl:TE):TI:=λσ H R=>tl σ H λx H1=>∃a,x= .ref a/\(∃xs,bD K H1 a xs)/\R (Itl K a) H1
def Zyu(K:Yb)(tl:TE):TI:=λσ H R=>tl σ H λx H1=>∃a,x= .ref a/\(∃xs,cM K H1 a xs)/\R (Itt K a) H1
theorem ZsC{l:Expr}{tl:TE}(hl:PE X l tl):PI X tg l (ZwR X.K tl):=by
 intro pins s σ H R I h;refine aH (hl pins s σ H _ I h) λv s1 ak=>?_;obtain⟨x,H1,I1,r1,q1⟩:=ak;obtain⟨a,e,⟨xs,hq⟩,q⟩:=q1;subst e;cases r1;obtain⟨its,rv,p,hz⟩:=I1.list hq;refine wY p.isList ?_;refine⟨s1.heap.objs.size,[s1.heap.objs.size],_,_,H1,rfl,I1.kept (t':=s1.toks) λb o e=>Yi _ e,ZoP a _,⟨_,Y1 _ rfl,rfl,rfl⟩,λb hb=>?_,q⟩;have e:b=s1.heap.objs.size:=by simpa using hb
 subst e;exact I1.u0 (Yo _) (I1.hok.fresh (Yo _))
theorem Zuz{l:Expr}{tl:TE}(hl:PE X l tl):PI X tg l (Zyu X.K tl):=by
 intro pins s σ H R I h;refine aH (hl pins s σ H _ I h) λv s1 ak=>?_;obtain⟨x,H1,I1,r1,q1⟩:=ak;obtain⟨a,e,⟨xs,hq⟩,q⟩:=q1;subst e;cases r1;obtain⟨its,rv,p,hz⟩:=I1.tuple hq;refine HS (show s1.heap.IsTuple a its.toArray from p) ?_;refine⟨s1.heap.objs.size,[s1.heap.objs.size],_,_,H1,rfl,I1.kept (t':=s1.toks) λb o e=>Yi _ e,ZmW a _,⟨_,Y1 _ rfl,rfl,rfl⟩,λb hb=>?_,q⟩;have e:b=s1.heap.objs.size:=by simpa using hb
 subst e;exact I1.u0 (Yo _) (I1.hok.fresh (Yo _))
theorem ZpB{σ:St}{H:Hp}{s:Yf}{R:It->Hp->Prop}{E:Yd->Yf->Prop}{lo hi:Int}{t u v:eG}{tk:Nat}(I:Inv X pins σ H s)(h1:-(2^62)<=lo)(h2:lo<2^62)(h3:-(2^62)<=hi)(h4:hi<2^62)(q:R (JL lo (hi-lo).toNat) H):Y8 (ao X.prog X.w) X.A (zH (.ref s.heap.objs.size)) (PIE X pins σ tg R) E {s with heap:=s.heap.push {cls:=.type "range",data:=.fields #[.int lo t,.int hi u,.int 1 v]},toks:=tk}:=by
 refine wpAny_pyIter_range (IsRange.new ..) (small_one h1 h2 h3 h4) ?_;have I1:Inv X pins σ H {s with heap:=s.heap.push {cls:=.type "range",data:=.fields #[.int lo t,.int hi u,.int 1 v]},toks:=tk}:=I.kept λb o e=>Yi _ e;refine⟨(s.heap.push {cls:=.type "range",data:=.fields #[.int lo t,.int hi u,.int 1 v]}).objs.size,[(s.heap.push {cls:=.type "range",data:=.fields #[.int lo t,.int hi u,.int 1 v]}).objs.size],_,_,H,rfl,
  I1.kept (t':=tk) λb o e=>Yi _ e,Zmv _ lo (hi-lo).toNat,?_,λb hb=>?_,q⟩
 .have e1:lo+((0:Nat):Int)*1=lo:=by simp
  have e2:(((hi-lo).toNat:Nat):Int)-((0:Nat):Int)=Builtin.Range.rangeSize lo hi 1:=by rw[rangeSize_one];split <;>omega
  show IsRangeIter _ _ (lo+((0:Nat):Int)*1) ((((hi-lo).toNat:Nat):Int)-((0:Nat):Int)) 1;rw[e1,e2];exact Y1 _ rfl
 .have e:b=(s.heap.push {cls:=.type "range",data:=.fields #[.int lo t,.int hi u,.int 1 v]}).objs.size:=by simpa using hb
  subst e;exact I1.u0 (Yo _) (I1.hok.fresh (Yo _))
def Zwf(ta:TA):TI:=λσ H R=>ta σ H λvs H1=>∃j:Int,vs=[.int j]/\ -(2^62)<=j/\j<2^62/\R (JL 0 j.toNat) H1
theorem Zpk{a:Expr}{ta:TA}{p pos:aP}(hg:Gl X "range")(hm:X.mg "range" =Yj)(ha:PA X [a] ta)(hs:autoParam (Yq [a] X.env=[(false,aF a X.env)]) qA):PI X tg (.Call (.Name "range" p) [a] [] pos) (Zwf ta):=by
 intro pins s σ H R I h;refine Call_ (xW I hg hm boot_range (PB (aH (ha pos pins s σ H _ I h) λus s1 ak=>?_) hs rfl));obtain⟨vs,H1,I1,r1,q1⟩:=ak;obtain⟨j,e,q1,q2,q⟩:=q1;subst e;cases r1 with
 |cons r rr=>
  cases rr
  obtain⟨t,rfl⟩:=r;exact call_range_1 (ZpB I1 (by omega) (by omega) q1 q2 (by simpa using q))
def Zym(wi:TI)(g:TG)(tb:TS):TS:=λD σ H=>wi σ H λJ H1=>∃W:Nat->Nat->St->Hp->Prop,(∃m,W 0 m σ H1)/\∀i m σ H,W i m σ H ->
 (J.stop i H/\D.nx σ H)\/(J.go i H/\∃N:St->Hp->Prop,(∀σ' H',N σ' H'->∃m',m'<m/\W (i+1) m' σ' H')/\∀x H',J.JH i H x H'->g x σ H' λσ2 H2=>tb {D with nx:=N,ct:=N,bk:=D.nx} σ2 H2)
noncomputable def t8(fp:List Ys)(h:au):List (Ys×aD):=fp.filterMap λb=>(h.get? b).map λo=>(b,o)
theorem Ae{h:au}{b:Ys}{o:aD}(hb:b∈fp)(e:h.get? b=Ya o):(b,o)∈t8 fp h:=Dy.mpr ⟨b,hb,by rw[e];rfl⟩
theorem ZoN{h:au}{p:Ys×aD}(hp:p∈t8 fp h):p.1∈fp/\h.get? p.1=Ya p.2:=by
 obtain⟨b,hb,e⟩:=Dy.mp hp;cases q:h.get? b with
 |none=>rw[q]at e;cases e|some o=>rw[q]at e;have e':(b,o)=p:=Y9 e;subst e';exact⟨hb,q⟩
theorem Inv.pinned{σ:St}{H:Hp}{s:Yf}(I:Inv X pins σ H s)(hf:∀b∈fp,gR X pins H b)(ho:∀b∈fp,∃o,s.heap.get? b=Ya o/\∀v,o.data≠ .cell v):Inv X (pins++t8 fp s.heap) σ H s:=I.VP λp hp=>(gP.mp hp).elim (λz=>I.pin p (Y4 _ z)) λz=>by obtain⟨hb,e⟩:=ZoN z;obtain⟨f0,f1,f2,_⟩:=hf p.1 hb;obtain⟨o,e',d⟩:=ho p.1 hb;rw[e]at e';cases e';exact⟨e,f0,f1,f2,d⟩
theorem Inv.CV{pl:List (Ys×aD)}{σ:St}{H:Hp}{s:Yf}(I:Inv X (pins++pl) σ H s):Inv X pins σ H s:=I.VP λp hp=>I.pin p (Y4 _ (n_ _ hp))
theorem ZqB{iter:Expr}{body:List Ydr}{wi:TI}{g:TG}{tb:TS}{pos:aP}(hp:Oq (ao X.prog X.w) X.A X.env X.xe)(hc:X.calm=true)(hi:PI X tg iter wi)(hg:PG X tg g)(hb:iZ X body tb)(hs:∀x,zr iter X.env x=pure x:=by intro _;rfl):PS X (.For tg iter body [] pos) (Zym wi g tb):=by
 intro pins s σ H D I h;refine wpAny_For (aH (hi pins s σ H _ I h) λv s1 h1=>aH h1 λitv s2 h2=>?_) hs;obtain⟨it,fp,tn,J,H2,e,I2,T,st2,f2,W,⟨m0,w0⟩,turn⟩:=h2;subst e;have stat:∀{H':Hp},(∀b∈fp,H' b=Yj)->∀b∈fp,gR X pins H' b:=λhn b hb=>⟨hn b hb,(f2 b hb).2⟩;refine codeAny_forLoop_any (λn s'=>∃i σ' H',Inv X pins σ' H' s'/\tn i s'.heap/\(∀b∈fp,H' b=Yj)/\W i n σ' H') ?_ m0 ⟨0,σ,H2,I2,st2,λb hb=>(f2 b hb).1,w0⟩;rintro n s3 ⟨i,σ3,H3,I3,st3,fr3,w3⟩;rcases turn i n σ3 H3 w3 with⟨stop,qn⟩|⟨go,N,hN,step⟩
 .refine wZ hp (aH (T.done X rfl rfl rfl hc i pins s3 σ3 H3 X.xe I3 (stat fr3) st3 stop) λr s4 ⟨hr,I4⟩=>?_);subst hr;exact Dl ⟨σ3,H3,I4,qn⟩
 .refine wZ hp (aH (T.item X rfl rfl rfl hc i pins s3 σ3 H3 X.xe I3 (stat fr3) st3 go) λr s4 ⟨u,hr,h4⟩=>?_);subst hr;refine wZ hp (aH h4 λ_ s5 ak=>?_);obtain⟨x,H5,I5,r5,y5,j8,oG⟩:=ak;have QX:=I5.pinned (stat oG) (T.obj _ _ j8);refine wZ hp (aH (hg _ s5 σ3 H5 x u _ QX r5 (step x H5 y5)) λ_ s6 ak=>?_);obtain⟨σ6,H6,I6,q6⟩:=ak;refine wZ hp (aH (hb _ s6 σ6 H6 _ I6 q6) λf s7 q7=>?_);have again:∀{σ7:St} {H7:Hp},Inv X (pins++t8 fp s5.heap) σ7 H7 s7->N σ7 H7->∃m,m<n/\∃i σ' H',Inv X pins σ' H' s7/\tn i s7.heap/\(∀b∈fp,H' b=Yj)/\W i m σ' H':=λ{σ7 H7} I7 n7=>by
   obtain⟨m',hm,w7⟩:=hN σ7 H7 n7;refine⟨m',hm,i+1,σ7,H7,I7.CV,T.keep _ _ _ j8 λb hb o e=>(I7.pin (b,o) (Y4 _ (Y4 _ (Ae hb e)))).1,λb hb=>?_,w7⟩;obtain⟨o,e,d⟩:=T.obj _ _ j8 b hb;exact(I7.pin (b,o) (Y4 _ (Y4 _ (Ae hb e)))).2.1
  cases f with
  |next=>obtain⟨σ7,H7,I7,n7⟩:=q7;exact again I7 n7|cont=>obtain⟨σ7,H7,I7,n7⟩:=q7;exact again I7 n7|brk=>obtain⟨σ7,H7,I7,q7⟩:=q7;exact⟨σ7,H7,I7.CV,q7⟩|ret v=>obtain⟨x7,σ7,H7,I7,r7,q7⟩:=q7;exact⟨x7,σ7,H7,I7.CV,r7,q7⟩
end
end _L2
namespace _L2
open PySem PySem.Spec PyProof.Rows
noncomputable abbrev R2:=V->V->Hp->VK->Prop
def bh(X:Cx)(f:Yd->Yd->jW Yd)(r:R2):Prop:=
 ∀(pins:List (Ys×aD)) (s:Yf) (σ:St) (H:Hp) (x y:V) (v u:Yd) (Q:VK),Inv X pins σ H s->RelV x v->RelV y u->r x y H Q ->
  Y8 (ao X.prog X.w) X.A (f v u) (EP X pins σ Q) X.xe s
def t_(X:Cx)(f:Yd->jW Yd)(r:V->Hp->VK->Prop):Prop:=
 ∀(pins:List (Ys×aD)) (s:Yf) (σ:St) (H:Hp) (x:V) (v:Yd) (Q:VK),Inv X pins σ H s->RelV x v->r x H Q ->
  Y8 (ao X.prog X.w) X.A (f v) (EP X pins σ Q) X.xe s
def cN(X:Cx)(f:Yd)(r:List V->Hp->VK->Prop):Prop:=
 ∀(pins:List (Ys×aD)) (s:Yf) (σ:St) (H:Hp) (xs:List V) (us:List Yd) (Q:VK),Inv X pins σ H s->Vals xs us->r xs H Q ->
  Y8 (ao X.prog X.w) X.A (call f us) (EP X pins σ Q) X.xe s
def Af(r:R2)(ta tb:TE):TE:=λσ H Q=>ta σ H λx H1=>tb σ H1 λy H2=>r x y H2 Q
def tUn(r:V->Hp->VK->Prop)(ta:TE):TE:=λσ H Q=>ta σ H λx H1=>r x H1 Q
def rI(C:Int->Int->Prop)(g:Int->Int->V):R2:=λx y H Q=>∃i j,x= .int i/\y= .int j/\C i j/\Q (g i j) H
def xX(g:Int->Int->V):R2:=λx y H Q=>∃i j,x= .int i/\y= .int j/\Q (g i j) H
noncomputable def rU(g:Int->V):V->Hp->VK->Prop:=λx H Q=>∃i,x= .int i/\Q (g i) H
variable{pins:List (Ys×aD)}{f:Yd->Yd->jW Yd}
section
variable {X:Cx} {a b c:Expr} {ta tb tc:TE} {pos:aP}
theorem QZ(ha:PE X a ta)(hb:PE X b tb){s:Yf}{σ:St}{H:Hp}{R:V->V->Hp->Prop}(I:Inv X pins σ H s)(h:ta σ H λx H1=>tb σ H1 λy H2=>R x y H2){Q:Yd->Yf->Prop}(hf:∀v u s2 x y H2,Inv X pins σ H2 s2->RelV x v->RelV y u->R x y H2->Y8 (ao X.prog X.w) X.A (f v u) Q X.xe s2):
  Y8 (ao X.prog X.w) X.A (aF a X.env) (λv s₁=>Y8 (ao X.prog X.w) X.A (aF b X.env) (λu s₂=>Y8 (ao X.prog X.w) X.A (f v u) Q X.xe s₂) X.xe s₁) X.xe s:=by
 refine aH (ha pins s σ H _ I h) λv s1 ak=>?_;obtain⟨x,H1,I1,r1,q1⟩:=ak;refine aH (hb pins s1 σ H1 _ I1 q1) λu s2 ak=>?_;obtain⟨y,H2,I2,r2,q2⟩:=ak;exact hf v u s2 x y H2 I2 r1 r2 q2
theorem Zv6{op:Operator}{r:R2}(ho:bh X (jU op) r)(ha:PE X a ta)(hb:PE X b tb):PE X (.BinOp a op b pos) (Af r ta tb):=by intro pins s σ H Q I h;exact wpAny_BinOp (QZ ha hb I h λv u s2 x y H2 I2 rx ry q=>ho pins s2 σ H2 x y v u Q I2 rx ry q)
theorem Zxj{op:UnaryOp}{r:V->Hp->VK->Prop}(ho:t_ X (Ih op) r)(ha:PE X a ta):PE X (.UnaryOp op a pos) (tUn r ta):=by intro pins s σ H Q I h;exact UnaryOp_ (aH (ha pins s σ H _ I h) λv s1 ⟨x,H1,I1,r1,q1⟩=>ho pins s1 σ H1 x v Q I1 r1 q1)
theorem opI{C:Int->Int->Prop}{g:Int->Int->Int}(rule:∀(i j:Int) (t u:eG) (s:Yf) (Q:Yd->Yf->Prop) (E:Yd->Yf->Prop),C i j->Q (.int (g i j) s.toks) {s with toks:=s.toks+1}->Y8 (ao X.prog X.w) X.A (f (.int i t) (.int j u)) Q E s):
  bh X f (rI C λi j=>.int (g i j)):=by
 intro pins s σ H x y v u Q I rx ry h;obtain⟨i,j,rfl,rfl,hc,q⟩:=h;obtain⟨t,rfl⟩:=rx;obtain⟨t',rfl⟩:=ry;exact rule i j t t' s _ _ hc ⟨.int (g i j),H,I.tok _,⟨_,rfl⟩,q⟩
theorem ZwY{g:Int->Int->Int}(rule:∀(i j:Int) (t u:eG) (s:Yf) (Q:Yd->Yf->Prop) (E:Yd->Yf->Prop),Q (.int (g i j) s.toks) {s with toks:=s.toks+1}->Y8 (ao X.prog X.w) X.A (f (.int i t) (.int j u)) Q E s):
  bh X f (xX λi j=>.int (g i j)):=by
 intro pins s σ H x y v u Q I rx ry h;obtain⟨i,j,rfl,rfl,q⟩:=h;obtain⟨t,rfl⟩:=rx;obtain⟨t',rfl⟩:=ry;exact rule i j t t' s _ _ ⟨.int (g i j),H,I.tok _,⟨_,rfl⟩,q⟩
theorem Q0{g:Int->Int->Bool}(rule:∀(i j:Int) (t u:eG) (s:Yf) (Q:Yd->Yf->Prop) (E:Yd->Yf->Prop),Q (.bool (g i j)) s->Y8 (ao X.prog X.w) X.A (f (.int i t) (.int j u)) Q E s):
  bh X f (xX λi j=>.bl (g i j)):=by
 intro pins s σ H x y v u Q I rx ry h;obtain⟨i,j,rfl,rfl,q⟩:=h;obtain⟨t,rfl⟩:=rx;obtain⟨t',rfl⟩:=ry;exact rule i j t t' s _ _ ⟨.bl (g i j),H,I,rfl,q⟩
def Zx3(i j:Int):Prop:=0<j/\j<1073741824
def Zxa(i j:Int):Prop:=(-(2^64)<i/\i<2^64)\/(-(2^64)<j/\j<2^64)
theorem Zxa.ok{i j:Int}(h:Zxa i j):IntMulOk i j:=by
 rcases h with⟨h1,h2⟩|⟨h1,h2⟩
 .exact .of_left (intBits_le_64 h1 h2)
 .exact .of_right (intBits_le_64 h1 h2)
theorem ZuS:bh X (jU .Add) (xX λi j=>.int (i+j)):=ZwY λ_ _ _ _ _ _ _ q=>add_int q
theorem ZtT:bh X (jU .Sub) (xX λi j=>.int (i-j)):=ZwY λ_ _ _ _ _ _ _ q=>sub_int q
theorem Zta:bh X (jU .FloorDiv) (rI Zx3 λi j=>.int (i / j)):=opI λi j _ _ _ _ _ hc q=>by have h1:(0:Int)<j:=hc.1;have h2:j<1073741824:=hc.2;exact floordiv_int (by exactλz=>iN [] [_] 2 26014245025 T1 z h1) (by rw[Int.fdiv_eq_ediv_of_nonneg i (by exact P0 h1)];exact q) (.inl (PyProof.noPylong_small (by omega)))
theorem Zt5:bh X (jU .Mod) (rI (λ_ j=>0<j) λi j=>.int (i % j)):=opI λi j _ _ _ _ _ hc q=>by have h1:(0:Int)<j:=hc;exact mod_int' (by exactλz=>iN [] [_] 2 26014245025 T1 z h1) (by rw[Int.fmod_eq_emod_of_nonneg i (by exact P0 h1)];exact q)
theorem unI{f:Yd->jW Yd}{g:Int->Int}(rule:∀(i:Int) (t:eG) (s:Yf) (Q:Yd->Yf->Prop) (E:Yd->Yf->Prop),Q (.int (g i) s.toks) {s with toks:=s.toks+1}->Y8 (ao X.prog X.w) X.A (f (.int i t)) Q E s):
  t_ X f (rU λi=>.int (g i)):=by
 intro pins s σ H x v Q I rx h;obtain⟨i,rfl,q⟩:=h;obtain⟨t,rfl⟩:=rx;exact rule i t s _ _ ⟨.int (g i),H,I.tok _,⟨_,rfl⟩,q⟩
theorem Zus:t_ X (Ih .USub) (rU λi=>.int (-i)):=unI λ_ _ _ _ _ q=>neg_int q
end
theorem Q3{i j:aj}:decide (V.str i=V.str j)=(i==j):=by rw[Px];simp
section
variable {X:Cx} {a b c:Expr} {ta tb tc:TE} {pos:aP}
theorem Q4{σ:St}{H:Hp}{s:Yf}{Q:VK}{k k':Bool}(I:Inv X pins σ H s)(q:Q (.bl k) H)(e:k=k'):EP X pins σ Q (.bool k') s:=by subst e;exact⟨.bl k,H,I,rfl,q⟩
theorem Zxm:bh X (fX .Lt) (xX λi j=>.bl (decide (i<j))):=Q0 λ_ _ _ _ _ _ _ q=>lt_int q
theorem Zv8:bh X (fX .LtE) (xX λi j=>.bl (decide (i<=j))):=Q0 λ_ _ _ _ _ _ _ q=>le_int q
theorem ZwG:bh X (fX .Gt) (xX λi j=>.bl (decide (j<i))):=Q0 λ_ _ _ _ _ _ _ q=>gt_int q
theorem ZoE:bh X (fX .In) (λx y H Q=>∃i j,x= .str i/\y= .str j/\Q (.bl (!(D_ j i 0 j.length 1).isEmpty)) H):=by intro pins s σ H x y v u Q I rx ry h;obtain⟨i,j,rfl,rfl,q⟩:=h;obtain⟨t,rfl⟩:=rx;obtain⟨t',rfl⟩:=ry;exact in_str (Q4 I q rfl)
theorem ZtL:bh X (fX .Is) (λx y H Q=>y= .non/\Q (.bl (decide (x= .non))) H):=by
 intro pins s σ H x y v u Q I rx ry h;obtain⟨rfl,q⟩:=h;cases ry;refine is_none_gen (Q4 I q ?_);cases x<;>first
  |(cases rx;rfl)
  |(obtain⟨t,rfl⟩:=rx;rfl)
theorem Zsl:bh X (fX .IsNot) (λx y H Q=>y= .non/\Q (.bl (!decide (x= .non))) H):=by
 intro pins s σ H x y v u Q I rx ry h;obtain⟨rfl,q⟩:=h;cases ry;refine isnot_none_gen (Q4 I q ?_);cases x<;>first
  |(cases rx;rfl)
  |(obtain⟨t,rfl⟩:=rx;rfl)
noncomputable def isObj:HO->Bool
 | .lst _=>true|.ins _ _ _=>true|_=>false
theorem Q5{s:Yf}{σ:St}{H:Hp}{a:Ys}{o:HO}(I:Inv X pins σ H s)(h:H a=Ya o)(p:isObj o=true):∃ob,s.heap.get? a=Ya ob/\ob.cls≠ .type "tuple":=by
 cases o with
 |lst xs=>obtain⟨_,its,n,_,e⟩:xs.length<=bF/\∃(its:List Yd) (n:Nat),Vals xs its/\s.heap.get? a=Ya {cls:=.type "list",data:=.seq its.toArray n}:=I.hok a _ h;exact⟨_,e,(by show Value.type "list" ≠ .type "tuple";decide +kernel)⟩|ins C dx fs=>have x:=I.hok a _ h;obtain⟨_,_,_,e,_⟩:=x;exact⟨_,e,(by show Value.ref C≠ .type "tuple";exactλz=>by cases z)⟩|_=>exact absurd (show false=true from p) oA
theorem bh.or{r r':R2}(h:bh X f r)(h':bh X f r'):bh X f (λx y H Q=>r x y H Q\/r' x y H Q):=by
 intro pins s σ H x y v u Q I rx ry q;rcases q with q|q
 .exact h pins s σ H x y v u Q I rx ry q
 .exact h' pins s σ H x y v u Q I rx ry q
theorem Zn5{op:CmpOp}{r:R2}(ho:bh X (fX op) r)(ha:PE X a ta)(hb:PE X b tb)(hm:w6 op b=false):PE X (.Compare a [op] [b] pos) (Af r ta tb):=by intro pins s σ H Q I h;exact wpAny_Compare1 (QZ ha hb I h λv u s2 x y H2 I2 rx ry q=>ho pins s2 σ H2 x y v u Q I2 rx ry q) hm
def ZwL(t:TE):TT:=λσ H Q=>t σ H λx H'=>∃k,x= .bl k/\Q k H'
theorem Q6{op:CmpOp}{r:R2}(ho:bh X (fX op) r)(ha:PE X a ta)(hb:PE X b tb)(hm:w6 op b=false):PT X (.Compare a [op] [b] pos) (ZwL (Af r ta tb)):=by intro pins s σ H Q I h;refine wpAny_isTrue_Compare1 (aH (ha pins s σ H _ I h) λv s1 ⟨x,H1,I1,r1,q1⟩=>aH (hb pins s1 σ H1 _ I1 q1) λu s2 ⟨y,H2,I2,r2,q2⟩=>aH (ho pins s2 σ H2 x y v u _ I2 r1 r2 q2) λc s3 ⟨z,H3,I3,r3,k,e,q3⟩=>?_) hm;subst e;cases r3;exact tQ ⟨H3,I3,q3⟩
theorem JM:(bF:Nat)<2^63:=by rw[q8];decide
theorem Zmj:bh X (jU .Add) (λx y H Q=>∃i j,x= .str i/\y= .str j/\i.length+j.length<=bF/\Q (.str (i++j)) H):=by intro pins s σ H x y v u Q I rx ry h;obtain⟨i,j,rfl,rfl,hz,q⟩:=h;obtain⟨t,rfl⟩:=rx;obtain⟨t',rfl⟩:=ry;exact add_str (λt' tk=>⟨.str (i++j),H,I.tok _,⟨_,rfl⟩,q⟩) hz
theorem vals1{x:V}{us:List Yd}(r:Vals [x] us):∃u,us=[u]/\RelV x u:=by
 cases r with
 |cons r1 r2=>cases r2;exact⟨_,rfl,r1⟩
theorem vals2{x y:V}{us:List Yd}(r:Vals [x,y] us):∃u w',us=[u,w']/\RelV x u/\RelV y w':=by
 cases r with
 |cons r1 r2=>
  cases r2 with
  |cons r3 r4=>cases r4;exact⟨_,_,rfl,r1,r3⟩
theorem ZoQ(hc:X.calm=true):cN X (.builtin "max") (λxs H Q=>∃i j,xs=[.int i,.int j]/\Q (.int (if j>i then j else i)) H):=by
 intro pins s σ H xs us Q I r h;obtain⟨i,j,rfl,q⟩:=h;obtain⟨u,w',rfl,⟨t,rfl⟩,⟨t',rfl⟩⟩:=vals2 r;refine max_two_ints (I.ok.hd hc) λh' tk k=>⟨_,H,I.kept k,?_,q⟩;by_cases hj:j>i
 .rw[if_pos hj,if_pos hj];exact⟨_,rfl⟩
 .rw[if_neg hj,if_neg hj];exact⟨_,rfl⟩
theorem ZoV:cN X (.type "int") (λxs H Q=>(∃i,xs=[.int i]/\Q (.int i) H)\/∃k,xs=[.bl k]/\Q (.int (if k then 1 else 0)) H):=by
 intro pins s σ H xs us Q I r h;rcases h with⟨i,rfl,q⟩|⟨k,rfl,q⟩
 .obtain⟨u,rfl,t,rfl⟩:=vals1 r;exact call_int_int ⟨.int i,H,I,⟨_,rfl⟩,q⟩
 .obtain⟨u,rfl,r1⟩:=vals1 r;cases r1;exact call_int_bool ⟨.int (if k then 1 else 0),H,I.tok _,⟨_,rfl⟩,q⟩
theorem ZkN:cN X (.type "str") (λxs H Q=>∃i,xs=[.int i]/\i.natAbs.log2<1920/\Q (.str (vK i)) H):=by intro pins s σ H xs us Q I r h;obtain⟨i,rfl,hz,q⟩:=h;obtain⟨u,rfl,t,rfl⟩:=vals1 r;exact PySem.P.str_of_int hz ⟨.str _,H,I.tok _,⟨_,rfl⟩,q⟩
def Zx4(K:Yb)(x:V)(H:Hp)(n:Nat):Prop:=
 match x with
 | .str y=>y.length<=bF/\n=y.length|.Aa y=>y.size<=bF/\n=y.size|.ref p=>(∃xs,bD K H p xs/\n=xs.length)\/∃xs,cM K H p xs/\n=xs.length|_=>False
theorem Zq6:cN X (.builtin "len") (λxs H Q=>∃x n,xs=[x]/\Zx4 X.K x H n/\Q (.int n) H):=by
 intro pins s σ H xs us Q I r h;obtain⟨x,n,rfl,e,q⟩:=h;obtain⟨u,rfl,rx⟩:=vals1 r;have hl:=JM;have hs:bF=16777216:=q8;cases x with
 |str y=>obtain⟨t,rfl⟩:=rx;obtain⟨hy,e'⟩:y.length<=bF/\n=y.length:=e;subst e';exact len_str (by omega) ⟨.int _,H,I.tok _,⟨_,rfl⟩,q⟩|Aa y=>obtain⟨t,rfl⟩:=rx;obtain⟨hy,e'⟩:y.size<=bF/\n=y.size:=e;subst e';exact PySem.W.len_bytes (by omega) ⟨.int _,H,I.tok _,⟨_,rfl⟩,q⟩|ref p=>
  cases rx
  have e':(∃xs,bD X.K H p xs/\n=xs.length)\/∃xs,cM X.K H p xs/\n=xs.length:=e;rcases e' with⟨xs,hx,e'⟩|⟨xs,hx,e'⟩
  .subst e';obtain⟨its,r',pl,hz⟩:=I.list hx;have hlen:=r'.length;exact Calls.call_len_list pl.isList (by simp only[Yt];omega) ⟨.int xs.length,H,I.tok _,⟨_,by simp only[Yt];rw[hlen]⟩,q⟩
  .subst e';obtain⟨its,r',pl,hz⟩:=I.tuple hx;have hlen:=r'.length;exact len_tuple pl (by simp only[Yt];omega) ⟨.int xs.length,H,I.tok _,⟨_,by simp only[Yt];rw[hlen]⟩,q⟩
 |_=>exact(show False from e).elim
end
end _L2
namespace _L2
open PySem PySem.Spec PyProof.Rows
structure Ag(h:au)(x dx C:Ys)(mA:aj->Option Yd):Prop where
 obj:h.get? x=Ya (u6 C dx)
 ns:h.Ns1 dx mA
 ne:dx≠x
theorem Zo3{h:au}{dx:Ys}{mA:aj->Option Yd}(n:h.Ns1 dx mA):∃od,h.get? dx=Ya od/\∀name,NQ name od=Ya (mA name):=by
 obtain⟨o,es,ep,ho,hd,hk,_,hm⟩:=n;refine⟨o,ho,λname=>?_⟩;have e:=hm name;unfold nsFind findBy at e;rw[←Array.find?_toList]at e;unfold NQ;rw[hd];dsimp only;split
 .rename_i y q;rw[q]at e;exact congrArg Ya e
 .rename_i q;rw[q]at e;have a:es.toList.any (·.refKey)=false:=by
   rw[List.any_eq_false];intro y hy;obtain⟨z,t,hkey⟩:=hk y (ZM.mp hy);simp[DictEntry.refKey,hkey]
  have a':¬es.toList.any (·.refKey)=true:=by rw[a];exact oA
  rw[if_neg a'];exact congrArg Ya e
theorem Ag.look{h:au}{x dx C:Ys}{mA:aj->Option Yd}(I:Ag h x dx C mA):∃od,PySem.W.InstAt h x (u6 C dx) C (Ya od)/\∀name,NQ name od=Ya (mA name):=
 let⟨od,ho,hl⟩:=Zo3 I.ns
 ⟨od,⟨I.obj,rfl,rfl,ho⟩,hl⟩
variable{Q:Yd->Yf->Prop}
section
variable {prog:aZ} {w:aU} {A:bj} {E:Yd->Yf->Prop} {s:Yf} {K:Yb} {x dx C f:Ys} {mA:aj->Option Yd} {name:aj} {v:Yd}
theorem Zr7{expr:Bool}(X:K.In s.heap)(I:Ag s.heap x dx C mA)(hg:HD K C name=true)(hh:HB K C=true)(ha:Y7 K (.ref C) name=Ya Yj)(hv:mA name=Ya v)(hv':WL v=true)(h:Q v {s with toks:=s.toks+1}):
  Y8 (ao prog w) A (Dw (.ref x) name expr) Q E s:=by
 obtain⟨od,J,hl⟩:=I.look;exact PySem.W.get_value X J (PySem.W.plainGet_of hg).1 (PySem.W.findObj_own hh ha rfl (by rw[hl,hv])) hv' h
theorem ZsL{ns:List aj}{Q:Unit->Yf->Prop}(X:K.In s.heap)(I:Ag s.heap x dx C mA)(hs:Y7 K (.ref C) "__setattr__" =Ya (Ya (.builtin "object.__setattr__")))(hp:Nu K C=true)(ht:Ny K C name=Ya Yj)(hh:HB K C=true)(hw:Og mA ns)(hsz:ns.length<=bF)(h:∀h',Ag h' x dx C (λy=>if y=name then Ya v else mA y)->DQ dx s.heap h'->Q () {s with heap:=h',toks:=s.toks+2}):
  Y8 (ao prog w) A (Ii (.ref x) name v) Q E s:=by
 obtain⟨od,J,hl⟩:=I.look;refine PySem.W.set_plain X J hs (PySem.W.osa_open (s:={s with toks:=s.toks+1}) (r:=Yj) X J hp ht λb=>?_);obtain⟨cd,hc,hd'⟩:=PySem.W.any_some hh;have hx:s.heap.get? x=Ya ⟨.ref C,Ya dx,.plain,#[]⟩:=I.obj;refine Yc (Yn (Yc (Yc (Ob hx (Yc (PySem.W.Looks.here (s:={s with toks:=s.toks+1}) (PySem.W.looks_clsIn X hc) ?_))))));rw[hd'];refine Yn (a:=Ya dx) (Yc (Yn (Yc ?_)));refine wpAny_nsSet1 (s:={s with toks:=s.toks+1}) I.ns λh' hn2 hs2=>?_;obtain⟨oD,esD,epD,hoD,hdD,hcD⟩:=hn2.count (PySem.Within.cons name v hw);refine Yc (Xc hoD (by rw[hdD];exact Xd (Yp hcD (by rw[Yk];exact lB 1 0xa1ca0c01001 T1 hsz))) ?_);exact Yn (h _ ⟨(hs2.2 _ (bT I.ne)).trans I.obj,hn2,I.ne⟩ hs2)
theorem Zrp{R:n8->Yf->Prop}{vs:List Yd}{kw:List (aj×Yd)}(X:K.In s.heap)(hm:HF K C=true)(hi:Y7 K (.ref C) "__init__" =Ya (Ya (.ref f)))(hf:NT K (.ref f)=Ya (.type "function"))(h:jt (ao prog w) (A.under (.builtin "type.__call__" ⟨.ref C::vs,kw⟩)) (.call (.ref f) ⟨.ref (s.heap.objs.size+1)::vs,kw⟩) (PySem.W.InitBack (s.heap.objs.size+1) R)
   {s with heap:=(s.heap.push tK).push (u6 C s.heap.objs.size)}):
  jt (ao prog w) A (.call (.ref C) ⟨vs,kw⟩) R s:=by
 obtain⟨hh,g,d,t,os⟩:=s;exact PySem.W.make_core (PySem.W.makes_of X hm) (PySem.W.looks_findIn X hi) (λself=>PySem.W.bind_fn X self hf) (.inl rfl) h
end
noncomputable def iG(f:aj)(v:V):List (aj×V)->List (aj×V)
 |[]=>[(f,v)]|(g,x)::r=>if g=f then(g,v)::r else(g,x)::iG f v r
theorem Zhp(f g:aj)(v:V):∀fs:List (aj×V),(iG f v fs).lookup g=if g=f then Ya v else fs.lookup g
 | []=>by
  show xH g [(f,v)]=_;by_cases h:g=f
  .have hb:(g==f)=true:=beq_iff_eq.mpr h;simp only[xH,hb,if_pos h]
  .have hb:(g==f)=false:=beq_eq_false_iff_ne.mpr h;simp only[xH,hb,if_neg h]
 | (k,x)::r=>by
  have ih:=Zhp f g v r;rw[show iG f v ((k,x)::r)=(if k=f then(k,v)::r else(k,x)::iG f v r)from rfl];by_cases hk:k=f
  .rw[if_pos hk];by_cases h:g=k
   .have hb:(g==k)=true:=beq_iff_eq.mpr h;simp only[xH,hb,if_pos (h.trans hk)]
   .have hb:(g==k)=false:=beq_eq_false_iff_ne.mpr h;simp only[xH,hb,if_neg (λe:g=f=>h (e.trans hk.symm))]
  .rw[if_neg hk];by_cases h:g=k
   .have hb:(g==k)=true:=beq_iff_eq.mpr h;simp only[xH,hb,if_neg (λe:g=f=>hk (h.symm.trans e))]
   .have hb:(g==k)=false:=beq_eq_false_iff_ne.mpr h;simp only[xH,hb];exact ih
theorem Q7(f:aj)(v:V):∀fs:List (aj×V),f∈(iG f v fs).map (·.1)/\∀g,g∈fs.map (·.1)->g∈(iG f v fs).map (·.1)
 |[]=>⟨by simp[iG],λg h=>by simp at h⟩|(k,x)::r=>by
  obtain⟨i1,i2⟩:=Q7 f v r;rw[show iG f v ((k,x)::r)=(if k=f then(k,v)::r else(k,x)::iG f v r)from rfl];by_cases hk:k=f
  .rw[if_pos hk];subst hk;exact⟨by simp,λg h=>by simpa using h⟩
  .rw[if_neg hk];refine⟨?_,λg h=>?_⟩
   .rw[Yv];exact Ye _ i1
   .rw[Yv]at h ⊢;rcases Ym.mp h with e|e
    .exact Ym.mpr (.inl e)
    .exact Ye _ (i2 g e)
theorem Zhy(f:aj)(v:V):∀fs:List (aj×V),(iG f v fs).length<=fs.length+1
 |[]=>by simp[iG]|(k,x)::r=>by
  have ih:=Zhy f v r;rw[show iG f v ((k,x)::r)=(if k=f then(k,v)::r else(k,x)::iG f v r)from rfl];by_cases hk:k=f
  .rw[if_pos hk,Yk,Yk];exact lU _ _
  .rw[if_neg hk,Yk,Yk];exact lB 1 0xaa1cca0c0a1c001 T1 ih
theorem mW.some_of{v:V}{o:Option Yd}(r:mW (Ya v) o):∃u,o=Ya u/\RelV v u:=by
 cases o with
 |none=>exact(show False from r).elim|some u=>exact⟨u,rfl,r⟩
theorem Zph{v:V}{u:Yd}(r:RelV v u):WL u=true:=by
 cases v with
 |non=>cases(show u=Value.none from r);rfl|bl b=>cases(show u=Value.bool b from r);rfl|int i=>obtain⟨t,e⟩:=(show∃t,u=Value.int i t from r);cases e;rfl|str x=>obtain⟨t,e⟩:=(show∃t,u=Value.str x t from r);cases e;rfl
 |Aa b=>obtain⟨t,e⟩:=(show∃t,u=Value.bytes b t from r);cases e;rfl|flt b=>obtain⟨t,e⟩:=(show∃t,u=Value.float b t from r);cases e;rfl|ref a=>cases(show u=Value.ref a from r);rfl|ty n=>cases(show u=Value.type n from r);rfl
section
variable {P:aZ} {w:aU} {H H':Hp} {h h':au} {a C dx:Ys} {fs fs':List (aj×V)}
theorem Q8(hok:fD P w H h)(e:H a=Ya (.ins C dx fs)):∃mA,Ag h a dx C mA/\(∀f,mW (fs.lookup f) (mA f))/\Og mA (fs.map (·.1))/\fs.length<=1000/\H dx=Ya (.own a):=by obtain⟨d,z,ne,ob,mA,n,r,q⟩:=(show cR P w H h a (.ins C dx fs)from hok a _ e);exact⟨mA,⟨ob,n,ne⟩,r,q,z,d⟩
end
structure vO(K:Yb)(C:Ys):Prop where
 pg:HD K C zY=true
 hd:HB K C=true
 po:Nu K C=true
 sa:Y7 K (.ref C) "__setattr__" =Ya (Ya (.builtin "object.__setattr__"))
theorem vO.get{K:Yb}{C:Ys}(c:vO K C)(f:aj):HD K C f=true:=c.pg
def rF(K:Yb)(C:Ys)(f:aj):Prop:=Y7 K (.ref C) f=Ya Yj
theorem rF.taker{K:Yb}{C:Ys}{f:aj}(n:rF K C f):Ny K C f=Ya Yj:=by unfold Ny;rw[show Y7 K (.ref C) f=Ya Yj from n];rfl
structure Meth(K:Yb)(C:Ys)(m:aj)(f:Ys):Prop where
 gG:Y7 K (.ref C) m=Ya (Ya (.ref f))
 fn:HN K (.ref f)=true
 kp:pB K (.ref f)=true
section
variable {X:Cx} {pins:List (Ys×aD)} {σ:St} {H:Hp} {s:Yf} {a C dx:Ys} {fs:List (aj×V)} {f:aj} {v:V} {A:bj} {E:Yd->Yf->Prop}
theorem ZmV{b:Bool}(I:Inv X pins σ H s)(e:H a=Ya (.ins C dx fs))(c:vO X.K C)(n:rF X.K C f)(l:fs.lookup f=Ya v)(h:∀u s',Inv X pins σ H s'->RelV v u->Q u s'):Y8 (ao X.prog X.w) A (Dw (.ref a) f b) Q E s:=by obtain⟨mA,O,r,_,_,_⟩:=Q8 I.hok e;obtain⟨u,hu,ru⟩:=mW.some_of (v:=v) (o:=mA f) (by rw[←l];exact r f);exact Zr7 I.bN O (c.get f) c.hd n hu (Zph ru) (h u _ (I.tok _) ru)
theorem ZmR{y:V}{u:Yd}{Q:Unit->Yf->Prop}(I:Inv X pins σ H s)(e:H a=Ya (.ins C dx fs))(c:vO X.K C)(n:rF X.K C f)(hl:fs.length<1000)(ry:RelV y u)(h:∀s',Inv X pins σ (upd H a (.ins C dx (iG f y fs))) s'->Q () s'):Y8 (ao X.prog X.w) A (Ii (.ref a) f u) Q E s:=by
 obtain⟨mA,O,r,wi,_,ho⟩:=Q8 I.hok e;have hz:(fs.map (·.1)).length<=bF:=by rw[Yw,q8];exact lA 1 0x10000007b003e83b011 T1 hl
 refine ZsL I.bN O c.sa c.po n.taker c.hd wi hz λh' O' sb=>h _ ?_;have hd:∃o,h'.get? dx=Ya o:=let⟨o,_,_,e',_⟩:=O'.ns;⟨o,e'⟩;refine I.write (x:=a) (e:=dx) (by rw[e];exact True.intro) (.inr ho) (λb q hb z=>(sb.2 b hb).trans z) hd ?_;refine⟨by rw[Zu O.ne];exact ho,?_,O.ne,O'.obj,_,O'.ns,λg=>?_,λg hg=>?_⟩
 .have:=Zhy f y fs;exact lB 2 0x3e83b003e83b111a1c001 T1 this hl
 .show mW ((iG f y fs).lookup g) (if g=f then Ya u else mA g);rw[Zhp];by_cases q:g=f
  .rw[if_pos q,if_pos q];exact ry
  .rw[if_neg q,if_neg q];exact r g
 .by_cases q:g=f
  .rw[q];exact(Q7 f y fs).1
  .refine(Q7 f y fs).2 g (wi g λz=>hg ?_);show(if g=f then Ya u else mA g)=Yj;rw[if_neg q];exact z
theorem Inv.made(I:Inv X pins σ H s):Inv X pins σ (upd (upd H s.heap.objs.size (.own (s.heap.objs.size+1))) (s.heap.objs.size+1) (.ins C s.heap.objs.size []))
  {s with heap:=(s.heap.push tK).push (u6 C s.heap.objs.size)}:=by
 have e1:(s.heap.push tK).get? s.heap.objs.size=Ya tK:=Y1 s.heap rfl;have e2:((s.heap.push tK).push (u6 C s.heap.objs.size)).get? (s.heap.objs.size+1)=Ya (u6 C s.heap.objs.size):=by
  have:=Y1 (s.heap.push tK) (o:=u6 C s.heap.objs.size) rfl
  rwa[vG]at this
 have e3:(s.heap.push tK).Ns s.heap.objs.size (λ_=>Yj):=⟨tK,#[],_,e1,rfl,(λe he=>absurd he (by simp)),λ_=>rfl⟩;have I1:=I.laid (a:=s.heap.objs.size) (o:=.own (s.heap.objs.size+1)) (h':=s.heap.push tK) (t':=s.toks) (λb u q=>Yi _ q) (Yo _) ⟨_,e1⟩;refine I1.laid (a:=s.heap.objs.size+1) (o:=.ins C s.heap.objs.size []) (t':=s.toks) (λb u q=>Yi _ q) (tW (vG _ _)) ?_;have ne:s.heap.objs.size≠s.heap.objs.size+1:=dM (DR _);refine⟨by rw[Zu ne,fY],d8 _,ne,e2,λ_=>Yj,(Ykv e3).at λo q=>Yi _ q,λ_=>True.intro,λy hy=>absurd rfl hy⟩
theorem Zof{prog:aZ}{w:aU}{env:cH}{e:Expr}{f:aj}{pos:aP}{s:Yf}(hb:mO e f env (aF e env)=aF e env)(h:Y8 (ao prog w) A (aF e env) (λo s₁=>Y8 (ao prog w) A (Dw o f true) Q E s₁) E s):Y8 (ao prog w) A (aF (.Attribute e f pos) env) Q E s:=Attribute_any_ h (by rw[arm_eval_Attribute,hb])
end
def ZxT(K:Yb)(ta:TE)(f:aj):TE:=λσ H Q=>ta σ H λx H1=>∃a C dx fs v,x= .ref a/\H1 a=Ya (.ins C dx fs)/\vO K C/\rF K C f/\fs.lookup f=Ya v/\Q v H1
def Zx0(K:Yb)(ta tv:TE)(f:aj):TS:=λD σ H=>tv σ H λy H1=>ta σ H1 λx H2=>∃a C dx fs,x= .ref a/\H2 a=Ya (.ins C dx fs)/\vO K C/\rF K C f/\fs.length<1000/\
 D.nx σ (upd H2 a (.ins C dx (iG f y fs)))
section
variable {X:Cx} {o e value:Expr} {f:aj} {pos pos' tpos:aP} {ta tv:TE}
theorem ZuZ(he:PE X e ta)(hb:mO e f X.env (aF e X.env)=aF e X.env):PE X (.Attribute e f pos) (ZxT X.K ta f):=by intro pins s σ H Q I h;refine Zof hb (aH (he pins s σ H _ I h) λu s1 ak=>?_);obtain⟨x,H1,I1,rx,a,C,dx,fs,v,ex,ea,c,n,l,q⟩:=ak;subst ex;obtain rfl:u=Value.ref a:=rx;exact ZmV I1 ea c n l λu' s2 I2 ru=>⟨v,H1,I2,ru,q⟩
theorem Zt0(ha:PE X o ta)(hv:PE X value tv)(hs:tR value (Ya (.Attribute o f pos')) pos.line X.env=pure false):PS X (.Assign [.Attribute o f pos'] value pos) (Zx0 X.K ta tv f):=by intro pins s σ H D I h;refine WW (aH (hv pins s σ H _ I h) λu s1 ⟨y,H1,I1,ry,q⟩=>aH (ha pins s1 σ H1 _ I1 q) λov s2 ak=>?_) hs;obtain⟨x,H2,I2,rx,a,C,dx,fs,ex,ea,c,n,l,q2⟩:=ak;subst ex;obtain rfl:ov=Value.ref a:=rx;exact ZmR I2 ea c n l ry λs3 I3=>⟨σ,_,I3,q2⟩
end
section
variable {X:Cx} {pins:List (Ys×aD)} {σ:St} {H:Hp} {s:Yf} {A:bj} {E:Yd->Yf->Prop} {Q:Yd->Yf->Prop} {c:Yd} {b:Bool}
inductive oH(K:Yb)(H:Hp):V->Yd->Prop where
 |non:oH K H .non (.type "NoneType")
 |bl (x:Bool):oH K H (.bl x) (.type "bool")
 |int (i:Int):oH K H (.int i) (.type "int")
 |str (x:aj):oH K H (.str x) (.type "str")
 |flt (x:UInt64):oH K H (.flt x) (.type "float")
 |lst {a:Ys} {xs:List V} (e:H a=Ya (.lst xs)):oH K H (.ref a) (.type "list")
 |b7 {a:Ys} {o:aD} {xs:List V} (e:H a=Ya (.b7 o (.lst xs))):oH K H (.ref a) (.type "list")
 |tup {a:Ys} {xs:List V} (e:H a=Ya (.tup xs)):oH K H (.ref a) (.type "tuple")
 |dK {a:Ys} {kvs:List (Key×V)} (e:H a=Ya (.dK kvs)):oH K H (.ref a) (.type "dict")
 |dT {a:Ys} {kvs:List (List Key×V)} (e:H a=Ya (.dT kvs)):oH K H (.ref a) (.type "dict")
 | ins {a C dx:Ys} {fs:List (aj×V)} (e:H a=Ya (.ins C dx fs)) (cl:vO K C) (ha:Y7 K (.ref C) "__class__" =Ya (Ya (.builtin "object.__class__")))
   (hn:zp K (.builtin "object.__class__") "__get__" =Ya (Ya (.builtin "getset_descriptor.__get__"))) (htk:Nz K (.builtin "object.__class__")=Ya true)
   (hm:tL K C (.type "object")=Ya true):oH K H (.ref a) (.ref C)
theorem Ah{x:V}{u t:Yd}(I:Inv X pins σ H s)(rx:RelV x u)(ty:oH X.K H x t)(e:WQ X.K t c=Ya b)(h:∀tk,Q (.bool b) {s with toks:=tk}):
  Y8 (ao X.prog X.w) A (call (.builtin "isinstance") [u,c]) Q E s:=by
 cases ty with
 |non=>cases(show u=Value.none from rx);exact nY WD I.bN True.intro e (λz=>nomatch z) h|bl y=>cases(show u=Value.bool y from rx);exact nY WK I.bN True.intro e (λz=>nomatch z) h|int i=>obtain⟨t,q⟩:=(show∃t,u=Value.int i t from rx);cases q;exact nY WM I.bN True.intro e (λz=>nomatch z) h|str y=>obtain⟨t,q⟩:=(show∃t,u=Value.str y t from rx);cases q;exact nY WN I.bN True.intro e (λz=>nomatch z) h
 |flt y=>obtain⟨t,q⟩:=(show∃t,u=Value.float y t from rx);cases q;exact nY PySem.W.kitx_float I.bN True.intro e (λz=>nomatch z) h|@lst a xs ea=>
  cases(show u=Value.ref a from rx)
  obtain⟨_,_,n,_,h1⟩:=(show cR X.prog X.w H s.heap a (.lst xs)from I.hok a _ ea);exact nY Nv I.bN ⟨_,h1,rfl⟩ e (λz=>nomatch z) h
 | @b7 a ob xs ea=>
  cases(show u=Value.ref a from rx)
  obtain⟨_,_,_,n,_,h1⟩:=(show cR X.prog X.w H s.heap a (.b7 ob (.lst xs))from I.hok a _ ea);exact nY Nv I.bN ⟨_,h1,rfl⟩ e (λz=>nomatch z) h
 | @tup a xs ea=>
  cases(show u=Value.ref a from rx)
  obtain⟨_,_,_,p⟩:=(show cR X.prog X.w H s.heap a (.tup xs)from I.hok a _ ea);obtain⟨o,h1,h2,_⟩:=p;exact nY Nq I.bN ⟨o,h1,h2.1⟩ e (λz=>nomatch z) h
 | @dK a kvs ea=>
  cases(show u=Value.ref a from rx)
  obtain⟨_,_,vs,_,p⟩:=(show cR X.prog X.w H s.heap a (.dK kvs)from I.hok a _ ea);obtain⟨o,es,ep,h1,h2,_⟩:=p;exact nY Nx I.bN ⟨o,h1,h2.1⟩ e (λz=>nomatch z) h
 | @dT a kvs ea=>
  cases(show u=Value.ref a from rx)
  obtain⟨_,_,xs,_,o,es,ep,h1,h2,_⟩:=(show cR X.prog X.w H s.heap a (.dT kvs)from I.hok a _ ea);exact nY Nx I.bN ⟨o,h1,h2.1⟩ e (λz=>nomatch z) h
 | @ins a C dx fs ea cl ha hn htk hm=>
  cases(show u=Value.ref a from rx)
  obtain⟨mA,O,_⟩:=Q8 I.hok ea;obtain⟨od,J,_⟩:=O.look;exact nY (PySem.W.kitx_own (cl.get _) cl.hd ha hn htk hm) I.bN J e (λz=>nomatch z) h
end
end _L2
namespace _L2
open PySem PySem.Spec PyProof.Rows
structure cD(k:Nat)(A:bj):Prop where
 hd:A.handled=Yj
 dp:A.depth+3*k+5<recursionLimit
 un:A.units+16*k+200<iR
variable{A:bj}
theorem cD.mono{j k:Nat}(r:cD k A)(h:j<=k):cD j A:=⟨r.hd,by have:=r.dp;exact lD 2 0x251b303d0cc11303251b103d0cc11 T1 this h,by have:=r.un;omega⟩
theorem cD.deeper{k:Nat}(r:cD (k+1) A)(env:cH):cD k (A.deeper env):=⟨r.hd,by have:=r.dp;show A.depth+1+3*k+5<_;exact lC 1 0x251b103da0ccc1251ba1c03d0cc11 T1 this,by have:=r.un;show A.units+3+16*k+200<_;exact lC 1 0x2c82b110d31b0ccc12c82ba1c10d0cc11 T1 this⟩
theorem cD.in1{k:Nat}(r:cD (k+1) A):cD k A.in1:=⟨r.hd,by have:=r.dp;show A.depth+3*k+5<_;exact lC 1 0x251b103d0cc1251ba1c03d0cc11 T1 this,by have:=r.un;show A.units+1+16*k+200<_;exact lC 1 0x2c82b110da0ccc12c82ba1c10d0cc11 T1 this⟩
variable{us:List Yd}
theorem Zm7{C:Ys}{kw:List (aj×Yd)}:(A.under (.builtin "type.__call__" ⟨.ref C::us,kw⟩)).depth=A.depth+1:=by first|rfl|simp[Qp,Code.weight,Code.isCreation,Code.isGuard,Code.isCaller,Code.frames,Qu,guardIds]
theorem Zm1{C:Ys}{kw:List (aj×Yd)}:(A.under (.builtin "type.__call__" ⟨.ref C::us,kw⟩)).units=A.units+1:=by first|rfl|simp[Qp,Code.cUnits,Code.frames,Qu]
theorem cD.make{k:Nat}(r:cD (k+1) A)(C:Ys)(us:List Yd)(kw:List (aj×Yd)):cD k (A.under (.builtin "type.__call__" ⟨.ref C::us,kw⟩)):=⟨r.hd,by have:=r.dp;rw[Zm7];exact lC 1 0x251b103da0ccc1251ba1c03d0cc11 T1 this,by have:=r.un;rw[Zm1];exact lC 1 0x2c82b110da0ccc12c82ba1c10d0cc11 T1 this⟩
theorem cD.depth{k:Nat}(r:cD k A):A.depth<recursionLimit:=by have:=r.dp;exact lC 1 0x201251b103d0cc11 T1 this
theorem cD.units{k:Nat}(r:cD k A):A.units+64<iR:=by have:=r.un;exact lC 1 0x2402b0c12c82b110d0cc11 T1 this
def Q9:TA:=λ_ H Q=>Q [] H
def JN(ta:TE)(tr:TA):TA:=λσ H Q=>ta σ H λx H1=>tr σ H1 λxs H2=>Q (x::xs) H2
section
variable {X:Cx} {e:Expr} {es:List Expr} {te:TE} {t:TA} {pos:aP}
theorem xY:PA X [] Q9:=λ_ _ _ _ H Q I h=>Yky ⟨[],H,I,.nil,h⟩
theorem oJ(ha:PE X e te)(hr:PA X es t)(hs:autoParam (Yq (e::es) X.env=(false,aF e X.env)::Yq es X.env) qA):PA X (e::es) (JN te t):=by intro pos pins s σ H Q I h;rw[hs];show Y8 _ _ (Dv ((false,aF e X.env)::bK pos (Yq es X.env))) _ _ s;refine Qx (aH (ha pins s σ H _ I h) λu s1 ak=>?_);obtain⟨x,H1,I1,r1,q1⟩:=ak;exact aH (hr pos pins s1 σ H1 _ I1 q1) λus s2 ⟨xs,H2,I2,r2,q2⟩=>⟨x::xs,H2,I2,.cons r1 r2,q2⟩
def Zyc(t:TA):TE:=λσ H Q=>t σ H λxs H1=>xs.length<=bF/\∀p,H1 p=Yj->Q (.ref p) (upd H1 p (.tup xs))
def ZxV(t:TA):TE:=λσ H Q=>t σ H λxs H1=>xs.length<=bF/\∀p,H1 p=Yj->Q (.ref p) (upd H1 p (.lst xs))
theorem Q_{x1}(h:PA X es t):PE X (.Tuple es x1 pos) (Zyc t):=by intro pins s σ H Q I hq;refine wpAny_Tuple_spliced (aH (h pos pins s σ H _ I hq) λus s1 ⟨xs,H1,I1,r,z,q⟩=>⟨by rw[←r.length];exact z,?_⟩);have hf:H1 s1.heap.objs.size=Yj:=I1.hok.fresh (Yo _);refine⟨.ref s1.heap.objs.size,upd H1 s1.heap.objs.size (.tup xs),I1.laid (t':=s1.toks) (λb u e=>Yi _ e) (Yo _) ?_,rfl,q _ hf⟩;exact⟨z,us,r,⟨_,Y1 _ rfl,⟨rfl,rfl⟩,_,rfl⟩⟩
theorem Zvv(h:PA X es t):PE X (.List es pos) (ZxV t):=by intro pins s σ H Q I hq;refine wpAny_List_spliced (aH (h pos pins s σ H _ I hq) λus s1 ⟨xs,H1,I1,r,z,q⟩=>⟨by rw[←r.length];exact z,?_⟩);have hf:H1 s1.heap.objs.size=Yj:=I1.hok.fresh (Yo _);refine⟨.ref s1.heap.objs.size,upd H1 s1.heap.objs.size (.lst xs),I1.laid (t':=s1.toks) (λb u e=>Yi _ e) (Yo _) ?_,rfl,q _ hf⟩;exact⟨z,us,0,r,Y1 _ rfl⟩
end
noncomputable abbrev Sp:=List V->Hp->VK->XK->Prop
noncomputable abbrev mY:=List cH->Hp->Yf->XK->Yd->Yf->Prop
structure rG(P:aZ)(w:aU)(K:Yb)(mg:aj->Option Yd)(base:au)(A:bj)(outer:List cH)(s:Yf)(H:Hp):Prop where
 frames:A.frames=Ya outer
 mod:Mod K mg base
 bs:∀b o,base.get? b=Ya o->s.heap.get? b=Ya o/\H b=Yj
 mX:base.objs.size<=s.heap.objs.size
 jE:s.heap.FunFrames base outer
 pM:∀b∈frs outer,H b=Yj
 hok:fD P w H s.heap
 bare:q_ s.gens
def CE(outer:List cH)(P:aZ)(w:aU)(H:Hp)(s:Yf)(Q:VK)(u:Yd)(s':Yf):Prop:=∃v H',s'.os=s.os/\q_ s'.gens/\Un (frs outer) [] H H' s.heap s'.heap/\fD P w H' s'.heap/\RelV v u/\Q v H'
def CR(CX:mY)(outer:List cH)(P:aZ)(w:aU)(H:Hp)(s:Yf)(Q:VK)(E:XK)(r:n8)(s':Yf):Prop:=
 match r with
 | .ok (.ret u)=>CE outer P w H s Q u s'|.ok _=>False|.error e=>CX outer H s E e s'
structure fM(P:aZ)(w:aU)(K:Yb)(mg:aj->Option Yd)(base:au)(CX:mY)(k:Nat)(f:Ys)(fd:jl)(ps:List aj)(sp:Sp):Prop where
 len:∀vs H Q E,sp vs H Q E->vs.length=ps.length
 run:∀(A:bj) (outer:List cH) (s:Yf) (H:Hp) (args:Args) (us:List Yd) (vs:List V) (Q:VK) (E:XK),cD k A->rG P w K mg base A outer s H->zF s fd args (ps.zip us)->Vals vs us->sp vs H Q E ->
  jt (ao P w) A (.call (.ref f) args) (CR CX outer P w H s Q E) s
variable{mg:aj->Option Yd}{base:au}{w:aU}{K:Yb}{ps:List aj}{P:aZ}
theorem fM.mono{CX:mY}{j k:Nat}{f:Ys}{fd:jl}{sp:Sp}(F:fM P w K mg base CX j f fd ps sp)(h:j<=k):
  fM P w K mg base CX k f fd ps sp:=⟨F.len,λA outer s H args us vs Q E hr=>F.run A outer s H args us vs Q E (hr.mono h)⟩
variable{outer:List cH}{H:Hp}{s:Yf}
theorem rG.make(e:rG P w K mg base A outer s H)(C:Ys)(us:List Yd)(kw:List (aj×Yd)):
  rG P w K mg base (A.under (.builtin "type.__call__" ⟨.ref C::us,kw⟩)) outer s H:=⟨by first|exact e.frames|(simpa[Qp,Code.envs,Qu,pushEnvs]using e.frames),e.mod,e.bs,e.mX,e.jE,e.pM,e.hok,e.bare⟩
theorem rG.in1(e:rG P w K mg base A outer s H):
  rG P w K mg base A.in1 outer s H:=⟨e.frames,e.mod,e.bs,e.mX,e.jE,e.pM,e.hok,e.bare⟩
section
variable {X:Cx} {pins:List (Ys×aD)} {σ:St} {H:Hp} {s s':Yf}
theorem Inv.env0(I:Inv X pins σ H s):rG X.prog X.w X.K X.mg X.base X.A X.stack s H:=⟨I.ok.frames,I.ok.mod,I.bs,Yp I.ok.mX I.sz,I.stack,I.MN,I.hok,I.bare⟩
theorem Inv.after{Q:VK}{u:Yd}(I:Inv X pins σ H s)(h:CE X.stack X.prog X.w H s Q u s'):EP X pins σ Q u s':=by obtain⟨v,H',os,bare,un,hok,r,q⟩:=h;obtain⟨hh,g,d,t,os'⟩:=s';obtain rfl:os'=s.os:=os;exact⟨v,H',I.call (h':=hh) (g':=g) (d':=d) (t':=t) (ch:=[]) un hok bare (λb z=>absurd z (by simp)),r,q⟩
end
def Zwq(sp:Sp)(j9:List V)(E:XK)(t:TA):TE:=λσ H Q=>t σ H λvs H1=>sp (vs++j9) H1 Q E
def Zxb(C:Ys)(sp:Sp)(j9:List V)(E:XK)(t:TA):TE:=λσ H Q=>t σ H λvs H1=>∀x dx,H1 x=Yj->H1 dx=Yj->dx≠x ->
 sp (.ref x::(vs++j9)) (upd (upd H1 dx (.own x)) x (.ins C dx [])) (λv H2=>v= .non/\Q (.ref x) H2) E
def Binds(K:Yb)(fd:jl)(ps:List aj)(ds:List Yd):Prop:=∀(s:Yf) (us:List Yd),K.In s.heap->(us++ds).length=ps.length->zF s fd ⟨us,[]⟩ (ps.zip (us++ds))
theorem Binds.all{fd:jl}(h:∀us:List Yd,us.length=ps.length->bindArgs fd ⟨us,[]⟩=pure (ps.zip us)):Binds K fd ps []:=λs us _ hl=>by rw[iD]at hl ⊢;exact .of_eq (h us hl)
def Es(CX:mY)(X:Cx)(E:XK):Prop:=∀(pins:List (Ys×aD)) (σ:St) (H:Hp) (s:Yf) (e:Yd) (s':Yf),Inv X pins σ H s->CX X.stack H s E e s'->X.xe e s'
variable{vs:List V}
section
variable {X:Cx} {CX:mY} {k:Nat} {f C:Ys} {fd:jl} {ps:List aj} {sp:Sp} {j9:List V} {ds:List Yd} {E:XK} {x m:aj} {p pos apos:aP} {e o:Expr} {es:List Expr} {ta:TE} {t:TA}
theorem ZvM{pins:List (Ys×aD)}{σ:St}{Q:VK}(F:fM X.prog X.w X.K X.mg X.base CX k f fd ps sp)(hr:cD k X.A)(hb:Binds X.K fd ps ds)(hd:Vals j9 ds)(hx:Es CX X E)(I:Inv X pins σ H s)(r:Vals vs us)(h:sp (vs++j9) H Q E):Y8 (ao X.prog X.w) X.A (call (.ref f) us) (EP X pins σ Q) X.xe s:=by
 have r2:Vals (vs++j9) (us++ds):=r.append hd;have hl:(us++ds).length=ps.length:=by rw[←r2.length];exact F.len _ _ _ _ h
 refine pF (pC (F.run X.A X.stack s H ⟨us,[]⟩ (us++ds) (vs++j9) Q E hr I.env0 (hb s us I.bN hl) r2 h) λr s' hq=>?_);cases r with
 |error e=>exact hx pins σ H s e s' I hq|ok fl=>
  cases fl with
  |ret u=>exact I.after hq|next=>exact dR hq|brk=>exact dR hq|cont=>exact dR hq
theorem Zse(F:fM X.prog X.w X.K X.mg X.base CX k f fd ps sp)(hr:cD k X.A)(hg:Gl X x)(hm:X.mg x=Ya (.ref f))(hk:pB X.K (.ref f)=true)(hb:Binds X.K fd ps ds)(hd:Vals j9 ds)(hx:Es CX X E)(ha:PA X (e::es) t)(hdb:autoParam ((x==("__debug__":aj))=false) qB)(he:autoParam (Yq (e::es) X.env=(false,aF e X.env)::Yq es X.env) qA)(hpl:autoParam ((bK pos (Yq es X.env)).any (·.1)=false) qA):
  PE X (.Call (.Name x p) (e::es) [] pos) (Zwq sp j9 E t):=by
 intro pins s σ H Q I h;refine wX (xV I hg hm ?_ hdb);refine Nr (h₀:=X.base) I.ok.mod.xU hk (aH (ha pos pins s σ H _ I h) λus s1 ⟨vs,H1,I1,r,q⟩=>⟨I1.bN,?_⟩) he hpl;exact ZvM F hr hb hd hx I1 r q
structure Mk(K:Yb)(C f:Ys):Prop where
 makes:HF K C=true
 init:Y7 K (.ref C) "__init__" =Ya (Ya (.ref f))
 fn:HN K (.ref f)=true
 kp:pB K (.ref C)=true
theorem ZpH{pins:List (Ys×aD)}{σ:St}{Q:VK}(M:Mk X.K C f)(F:fM X.prog X.w X.K X.mg X.base CX k f fd ps sp)(hr:cD (k+1) X.A)(hb:Binds X.K fd ps ds)(hd:Vals j9 ds)(hx:Es CX X E)(I:Inv X pins σ H s)(r:Vals vs us)(h:∀x dx,H x=Yj->H dx=Yj->dx≠x->sp (.ref x::(vs++j9)) (upd (upd H dx (.own x)) x (.ins C dx [])) (λv H2=>v= .non/\Q (.ref x) H2) E):
  Y8 (ao X.prog X.w) X.A (call (.ref C) us) (EP X pins σ Q) X.xe s:=by
 have hq:=h (s.heap.objs.size+1) s.heap.objs.size (I.hok.fresh (vI _)) (I.hok.fresh (Yo _)) (dM (DR _));have I2:=Inv.made (C:=C) I;have r2:Vals (V.ref (s.heap.objs.size+1)::(vs++j9)) (Value.ref (s.heap.objs.size+1)::(us++ds)):=.cons rfl (r.append hd);have hl:(Value.ref (s.heap.objs.size+1)::us++ds).length=ps.length:=by have e:=r2.length;rw[F.len _ _ _ _ hq]at e;exact e.symm
 refine pF (Zrp (f:=f) I.bN M.makes M.init (beq_iff_eq.mp M.fn) (pC (F.run _ X.stack _ _ ⟨Value.ref (s.heap.objs.size+1)::us,[]⟩ (Value.ref (s.heap.objs.size+1)::(us++ds)) _ _ E (hr.make C us [])
  (I2.env0.make C us []) (hb _ (Value.ref (s.heap.objs.size+1)::us) I2.bN hl) r2 hq) λr s' hq'=>?_))
 cases r with
 |error e=>exact hx pins σ _ _ e s' I2 hq'|ok fl=>
  cases fl with
  |ret u=>obtain⟨v,H',I3,rv,ev,q3⟩:=I2.after hq';subst ev;exact⟨rv,⟨V.ref (s.heap.objs.size+1),H',I3,rfl,q3⟩⟩|next=>exact dR hq'|brk=>exact dR hq'
  |cont=>exact dR hq'
theorem Zsx(M:Mk X.K C f)(F:fM X.prog X.w X.K X.mg X.base CX k f fd ps sp)(hr:cD (k+1) X.A)(hg:Gl X x)(hm:X.mg x=Ya (.ref C))(hb:Binds X.K fd ps ds)(hd:Vals j9 ds)(hx:Es CX X E)(ha:PA X (e::es) t)(hdb:autoParam ((x==("__debug__":aj))=false) qB)(he:autoParam (Yq (e::es) X.env=(false,aF e X.env)::Yq es X.env) qA)(hpl:autoParam ((bK pos (Yq es X.env)).any (·.1)=false) qA):
  PE X (.Call (.Name x p) (e::es) [] pos) (Zxb C sp j9 E t):=by
 intro pins s σ H Q I h;refine wX (xV I hg hm ?_ hdb);refine Nr (h₀:=X.base) I.ok.mod.xU M.kp (aH (ha pos pins s σ H _ I h) λus s1 ⟨vs,H1,I1,r,q⟩=>⟨I1.bN,?_⟩) he hpl;exact ZpH M F hr hb hd hx I1 r q
end
def PK(X:Cx)(kws:List Keyword)(t:TA):Prop:=∀(pos:aP) (pins:List (Ys×aD)) (s:Yf) (σ:St) (H:Hp) (Q:List V->Hp->Prop),Inv X pins σ H s->t σ H Q->Y8 (ao X.prog X.w) X.A (Ij ((iC pos (iB kws X.env)).map (·.2))) (AP X pins σ Q) X.xe s
section
variable {X:Cx} {CX:mY} {k:Nat} {f C:Ys} {fd:jl} {ps ks:List aj} {sp:Sp} {E:XK} {x m:aj} {p pos apos kpos:aP} {e o:Expr} {es:List Expr} {kws:List Keyword} {te ta:TE} {t tk:TA} {nm:Option aj}
theorem ZqS:PK X [] Q9:=λ_ _ _ _ H Q I h=>wpAny_evalAll_nil ⟨[],H,I,.nil,h⟩
theorem ZnW(ha:PE X e te)(hr:PK X kws t):PK X (⟨nm,e,kpos⟩::kws) (JN te t):=by intro pos pins s σ H Q I h;show Y8 _ _ (Ij ((do let v ←aF e X.env;Ig pos;pure v)::(iC pos (iB kws X.env)).map (·.2))) _ _ s;refine wpAny_evalAll_cons (Yc (aH (ha pins s σ H _ I h) λu s1 ⟨x,H1,I1,r1,q1⟩=>Yc (vd (Yn ?_))));exact aH (hr pos pins s1 σ H1 _ I1 q1) λus s2 ⟨xs,H2,I2,r2,q2⟩=>⟨x::xs,H2,I2,.cons r1 r2,q2⟩
variable {g:List Yd->List Yd->List Yd} {gV:List V->List V->List V}
end
structure dw(N P:List aj)(sc:Scope):Prop where
 kind:sc.kind= .function
 co:sc.isCoroutine=false
 gen:sc.isGenerator=false
 nd:N.Nodup
 pre:N.take P.length=P
 par:∀x∈P,sc.names.lookup x=Ya .local\/sc.names.lookup x=Ya .cell
 Ach:∀y∈sc.names,y.2≠ .free
theorem ZjI{lW:aj->Option NameKind}{x:aj}:∀{binds:List (aj×Yd)} {m:aj->Option Yd},(∀v,(x,v)∉binds)->vp lW binds m x=m x
 |[],_,_=>rfl|(n,v)::r,m,h=>by
  unfold vp;rw[ZjI λw hw=>h w (Ye _ hw)];split
  .have:x≠n:=by rintro rfl;exact h v Yg
   simp[this]
  .rfl
theorem ZjX{lW:aj->Option NameKind}{x:aj}:∀{binds:List (aj×Yd)} {m:aj->Option Yd},(∀v,(x,v)∉binds)->vy lW binds m x=m x
 |[],_,_=>rfl|(n,v)::r,m,h=>by
  unfold vy;rw[ZjX λw hw=>h w (Ye _ hw)];split
  .rfl
  .have:x≠n:=by rintro rfl;exact h v Yg
   simp[this]
theorem Zjt{lW:aj->Option NameKind}{x:aj}{v:Yd}:∀{P:List aj} {vs:List Yd} {i:Nat} {m:aj->Option Yd},P.Nodup->P[i]?=Ya x->vs[i]?=Ya v->lW x=Ya .local ->
  vp lW (P.zip vs) m x=Ya v
 |[],_,_,_,_,h,_,_=>by simp at h|_::_,[],_,_,_,_,h,_=>by simp at h|p::P,w::vs,0,m,nd,h1,h2,hk=>by simp at h1 h2;subst h1;subst h2;show vp lW ((p,w)::P.zip vs) m p=_;unfold vp;rw[ZjI λv hv=>(xG.mp nd).1 (O6 hv).1,if_pos hk];simp|p::P,w::vs,i+1,m,nd,h1,h2,hk=>by show vp lW ((p,w)::P.zip vs) m x=_;unfold vp;exact Zjt (i:=i) (xG.mp nd).2 (by simpa using h1) (by simpa using h2) hk
theorem ZjW{lW:aj->Option NameKind}{x:aj}{v:Yd}:∀{P:List aj} {vs:List Yd} {i:Nat} {m:aj->Option Yd},P.Nodup->P[i]?=Ya x->vs[i]?=Ya v->lW x≠Ya .local ->
  vy lW (P.zip vs) m x=Ya v
 |[],_,_,_,_,h,_,_=>by simp at h|_::_,[],_,_,_,_,h,_=>by simp at h|p::P,w::vs,0,m,nd,h1,h2,hk=>by simp at h1 h2;subst h1;subst h2;show vy lW ((p,w)::P.zip vs) m p=_;unfold vy;rw[ZjX λv hv=>(xG.mp nd).1 (O6 hv).1,if_neg hk];simp|p::P,w::vs,i+1,m,nd,h1,h2,hk=>by show vy lW ((p,w)::P.zip vs) m x=_;unfold vy;exact ZjW (i:=i) (xG.mp nd).2 (by simpa using h1) (by simpa using h2) hk
noncomputable def start(N:List aj)(vs:List V):St:=vs.map Ya++Y2 (N.length-vs.length) Yj
noncomputable def mZ(CX:mY)(P:aZ)(w:aU)(K:Yb)(mg:aj->Option Yd)(base:au)(N:List aj)(qual:aj)(scope:Scope)(f:Ys)(cd:Yd)(A:bj)(outer:List cH)(s:Yf)(H:Hp)(E:XK):Cx where
 prog:=P
 w:=w
 K:=K
 mg:=mg
 base:=base
 A:=A.deeper (j7 qual scope s.heap.objs.size f cd)
 N:=N
 s₀:=s
 H₀:=H
 env:=j7 qual scope s.heap.objs.size f cd
 outer:=outer
 stack:=j7 qual scope s.heap.objs.size f cd::outer
 ex:=[]
 calm:=true
 fn:=λ_=>true
 pn:=[]
 xe:=λe s'=>Y8 (ao P w) (A.deeper (j7 qual scope s.heap.objs.size f cd)) (Ik (j7 qual scope s.heap.objs.size f cd) e) (λ_ s''=>CX outer H s E e s'') (λe' s''=>CX outer H s E e' s'') s'
theorem Zld{sc:Scope}{n:Nat}{x:aj}(h:sc.names.lookup x=Ya .cell):∃c,(Ot n sc.names []).lookup x=Ya c:=by have q:=Wx sc.names n [] (.inl h);exact Nk.mp q
theorem ZoO{CX:mY}{N:List aj}{qual:aj}{scope:Scope}{f:Ys}{cd:Yd}{s1:Yf}{E:XK}(S:dw N ps scope)(hd:A.handled=Yj)(e0:rG P w K mg base A outer s H)(hl:vs.length=ps.length)(r:Vals vs us)(x:InCallC s s.heap.objs.size (vp (j7 qual scope s.heap.objs.size f cd).kindOf (ps.zip us) λ_=>Yj) (Ot (s.heap.objs.size+1) scope.names []) (vy (j7 qual scope s.heap.objs.size f cd).kindOf (ps.zip us) λ_=>Yj) s1):
  Inv (mZ CX P w K mg base N qual scope f cd A outer s H E) [] (start N vs) H s1:=by
 have hpl:ps.length<=N.length:=by have:=congrArg tU S.pre;rw[xu]at this;omega
 obtain⟨h1,tk,rfl,hk⟩:=x.done;have Et:∀b:Ys,b∉(mZ CX P w K mg base N qual scope f cd A outer s H E).ex:=λb z=>absurd (show b∈([]:List Ys)from z) (by simp);refine⟨⟨e0.mod,S.kind,rfl,rfl,Yo _,λy z c h1 h2=>?_,λy hy=>?_,λy c _ h=>?_,λ_=>hd,Around.frames_deeper e0.frames,.inr ⟨rfl,rfl⟩,λb z=>absurd z (Et b),e0.bs,e0.mX,λb _ _=>Et b,λb z=>absurd z (Et b),e0.jE,e0.pM⟩,
  rfl,e0.bare,Un.kept hk,⟨_,x.toInCall.ns,λi y v h1 h2 h3=>?_⟩,λy c h=>⟨_,x.cell y c h⟩,e0.hok.fresh (Yo _),λy c h=>?_,λp hp=>absurd (show p∈([]:List (Ys×aD))from hp) (by simp),e0.hok.kept hk,?_⟩
 .exact name_of_addr x.apart (tO h1) (tO h2)
 .have hy:scope.names.lookup y=Ya .cell\/scope.names.lookup y=Ya .free:=hy;rcases hy with hy|hy
  .exact Zld hy
  .exact absurd rfl (S.Ach _ (tO hy))
 .exact Pr (x.above y c (tO h))
 .have hi:i<vs.length:=by
   unfold start at h2;by_cases hi:i<vs.length
   .exact hi
   .rw[xr (by simpa using hi)]at h2;rw[Il]at h2;split at h2<;>cases h2
  have ha:vs[i]?=Ya v:=by
   unfold start at h2;rw[Y3 (by simpa using hi),ou]at h2;cases e:vs[i]? with
   |none=>rw[e]at h2;cases h2|some a=>rw[e]at h2;cases h2;rfl
  obtain⟨u,hu,rv⟩:=r.get ha;have hp:ps[i]?=Ya y:=by rw[←S.pre,vA (by exact lC 2 2203874037777 T1 hi hl)];exact h1
  have ndP:ps.Nodup:=by rw[←S.pre];exact S.nd.sublist (Xy _ _)
  refine⟨u,rv,?_⟩;rcases S.par y (zN hp)with k|k
  .exact .inl ⟨k,Zjt ndP hp hu k⟩
  .obtain⟨c,e⟩:=Zld (n:=s.heap.objs.size+1) k;refine .inr ⟨.inl k,c,e,?_⟩;have q:=x.cell y c e;rw[ZjW ndP hp hu (by show scope.names.lookup y≠_;rw[k];decide)]at q;exact q
 .exact e0.hok.fresh (Pr (x.above y c (tO h)))
 .unfold start;show _=N.length;rw[Yl,Yw,Xq];exact gn (lC 1 2206541614113 T1 (j4 (lC 2 1236986302465 T1 hpl hl))) (lC 1 1288492400641 T1 (jH _ _))
theorem Ra{CX:mY}{k:Nat}{f:Ys}{name qual:aj}{params:Arguments}{body:List Ydr}{scope:Scope}{dV kV doc pm cdv ct oc:Yd}{an od:Option Ys}{osl:Array (Option Yd)}{N:List aj}{sp:Sp}(lk:K.lookup f=Ya ⟨oc,od,.func (nZ name qual params body scope dV kV doc pm an cdv ct),osl⟩)(hcd:zq K cdv qual=true)(S:dw N ps scope)(len:∀vs H Q E,sp vs H Q E->vs.length=ps.length)(hbody:∀(A:bj) (outer:List cH) (s:Yf) (H:Hp) (vs:List V) (Q:VK) (E:XK),cD k (A.deeper (j7 qual scope s.heap.objs.size f cdv))->sp vs H Q E ->
   ∃t,iZ (mZ CX P w K mg base N qual scope f cdv A outer s H E) body t/\t {nx:=λ_ H'=>Q .non H',rt:=Q} (start N vs) H):
  fM P w K mg base CX (k+1) f (nZ name qual params body scope dV kV doc pm an cdv ct) ps sp:=by
 refine⟨len,λA outer s H args us vs Q E hr e0 hb r hsp=>?_⟩;have hl:=len _ _ _ _ hsp;have KX:K.In s.heap:=e0.mod.xU.keeps λb o e=>(e0.bs b o e).1;have lim:s.heap.NoLimit:=e0.mod.nolimit.keeps λb o e=>(e0.bs b o e).1;have hkind:∀y∈ps.zip us,scope.names.lookup y.1=Ya .local\/(scope.names.lookup y.1=Ya .cell/\((Ot (s.heap.objs.size+1) scope.names []).lookup y.1).isSome=true):=λ⟨n,v⟩ hy=>by
  rcases S.par n (O6 hy).1 with q|q
  .exact .inl q
  .exact .inr ⟨q,Wx _ _ _ (.inl q)⟩
 refine codeAny_call_function hr.depth (KX _ _ lk) rfl S.co S.gen rfl (PySem.W.codeRec_of KX hcd) (hb _ _ _ _ ?_);refine wpAny_newFunctionEnv_cells S.kind hkind λenv he s1 x=>?_;subst he;refine⟨lim.keeps x.toInCall.keep,codeAny_func ?_⟩;obtain⟨t,ht,hq⟩:=hbody A outer s H vs Q E (hr.deeper _) hsp;have I:Inv (mZ CX P w K mg base N qual scope f cdv A outer s H E) [] (start N vs) H s1:=ZoO S hr.hd e0 hl r x;refine fj (ht [] s1 (start N vs) H _ I hq) (λfl s' hs=>?_) λe s' hs=>hs;have fin:∀{σ':St} {H':Hp} {v:V} {u:Yd},Inv (mZ CX P w K mg base N qual scope f cdv A outer s H E) [] σ' H' s'->RelV v u->Q v H'->CE outer P w H s Q u s':=λ{σ' H' v u} J rv q=>⟨v,H',J.os,J.bare,J.base,J.hok,rv,q⟩;cases fl with
 |ret u=>obtain⟨v,σ',H',J,rv,q⟩:=hs;exact fin J rv q|next=>obtain⟨σ',H',J,q⟩:=hs;exact fin (v:=V.non) (u:=Value.none) J rfl q|brk=>obtain⟨_,_,_,q⟩:=hs;exact dR q|cont=>obtain⟨_,_,_,q⟩:=hs;exact dR q
end _L2
namespace _L2
open PySem PySem.Spec PyProof.Rows
section
variable {X:Cx} {x:aj} {p pos:aP} {e:Expr} {es:List Expr} {t:TA} {id T:String} {r:List V->Hp->VK->Prop}
def Eu(r:List V->Hp->VK->Prop)(t:TA):TE:=λσ H Q=>t σ H λvs H1=>r vs H1 Q
theorem JP(hc:cN X (.builtin id) r)(hg:Gl X x)(hm:X.mg x=Yj)(hv:jr x=Ya (.builtin id))(ha:PA X (e::es) t)(hn:autoParam (x≠ "__name__") qB)(hdb:autoParam ((x==("__debug__":aj))=false) qB)(he:autoParam (Yq (e::es) X.env=(false,aF e X.env)::Yq es X.env) qA)(hpl:autoParam ((bK pos (Yq es X.env)).any (·.1)=false) qA):PE X (.Call (.Name x p) (e::es) [] pos) (Eu r t):=by intro pins s σ H Q I h;refine wX (xW I hg hm hv ?_ hn hdb);exact YJ (aH (ha pos pins s σ H _ I h) λus s1 ⟨vs,H1,I1,r1,q1⟩=>hc pins s1 σ H1 vs us Q I1 r1 q1) he hpl
theorem ZjR(hc:cN X (.type T) r)(hg:Gl X x)(hm:X.mg x=Yj)(hv:jr x=Ya (.type T))(ha:PA X (e::es) t)(hn:autoParam (x≠ "__name__") qB)(hdb:autoParam ((x==("__debug__":aj))=false) qB)(he:autoParam (Yq (e::es) X.env=(false,aF e X.env)::Yq es X.env) qA)(hpl:autoParam ((bK pos (Yq es X.env)).any (·.1)=false) qA):PE X (.Call (.Name x p) (e::es) [] pos) (Eu r t):=by intro pins s σ H Q I h;refine wX (xW I hg hm hv ?_ hn hdb);exact PB (aH (ha pos pins s σ H _ I h) λus s1 ⟨vs,H1,I1,r1,q1⟩=>hc pins s1 σ H1 vs us Q I1 r1 q1) he hpl
end
end _L2
namespace _HT
open PySem PyProof.Rows
section
variable {prog:aZ} {w:aU} {A:bj} {E:Yd->Yf->Prop} {s:Yf}
theorem Ab3{t b:Ys}{vs ws:List Yd}{Q:Yd->Yf->Prop}(ht:IsTup s.heap t vs.toArray)(hb:IsTup s.heap b ws.toArray)(hv:vs≠[])(h1:ws=[]->Q (.ref t) s)(h2:ws≠[]->Q (.ref s.heap.objs.size) {s with heap:=s.heap.push {cls:=.type "tuple",data:=.seq (vs++ws).toArray}})(hsz:vs.length+ws.length<=bF):Y8 (ao prog w) A (jU .Add (.ref t) (.ref b)) Q E s:=by
 obtain⟨⟨cls,dd,data,sl⟩,ho,hc,n,hd⟩:=id ht;obtain⟨⟨cls2,dd2,data2,sl2⟩,ho2,hc2,n2,hd2⟩:=id hb;simp only at hc hd hc2 hd2;subst hc hd hc2 hd2;have e:vs.toArray++ws.toArray=(vs++ws).toArray:=by simp
 by_cases hw:ws=[]
 .exact Oh ⟨_,ho,rfl⟩ ⟨_,ho2,rfl⟩ N8 Od Qh Qg (Qf _ _)
   (tuple_addW1 t b vs.toArray ws.toArray n n2 dd dd2 sl sl2 (by simpa using hv) (by simp[hw])) ⟨ho,ho2,h1 hw⟩
 .refine Oh ⟨_,ho,rfl⟩ ⟨_,ho2,rfl⟩ N8 Od Qh Qg (Qf _ _)
   (tuple_addW2 t b vs.toArray ws.toArray n n2 dd dd2 sl sl2 (by simpa using hv) (by simpa using hw) (by rw[Yt,Yt];exact hsz)) ⟨ho,ho2,?_⟩
  rw[e];exact h2 hw
noncomputable def aA(n d:Nat):Option Int->Nat
 |none=>d|some v=>if v<0 then(v+(n:Int)).toNat else ir v.toNat n
theorem Rb(n d:Nat):aA n d Yj=d:=rfl
theorem Ew(n d k:Nat):aA n d (Ya (k:Int))=ir k n:=by show(if(k:Int)<0 then((k:Int)+(n:Int)).toNat else ir (k:Int).toNat n)=ir k n;rw[if_neg (Qc.2 (Eb _)),z6]
theorem JQ(n d:Nat)(hd:d<=n)(o:Option Int):aA n d o<=n:=by
 cases o with
 |none=>exact hd|some v=>
  show(if v<0 then(v+(n:Int)).toNat else ir v.toNat n)<=n;by_cases hv:v<0
  .rw[if_pos hv];omega
  .rw[if_neg hv];exact Ph _ _
theorem Zni(v:Int)(n d:Nat):(if v<0 then mV (v+(n:Int)) 0 else ir v (n:Int))=((aA n d (Ya v):Nat):Int):=by
 show(if v<0 then mV (v+(n:Int)) 0 else ir v (n:Int))=(((if v<0 then(v+(n:Int)).toNat else ir v.toNat n):Nat):Int);by_cases hv:v<0
 .simp only[if_pos hv];exact clA _
 .simp only[if_neg hv];exact clB _ _ hv
theorem Zmo(lo hi:Option Int)(n:Nat):Qo lo hi 1 (n:Int)=(((aA n 0 lo:Nat):Int),((aA n n hi:Nat):Int)):=by
 have h1:¬((1:Int)<0):=by decide
 unfold Qo;simp only[h1,if_false];refine Prod.ext ?_ ?_
 .cases lo with
  |none=>rfl|some v=>exact Zni v n 0
 .cases hi with
  |none=>rfl|some v=>exact Zni v n n
theorem ZmQ(i j:Nat):Jm (i:Int) (j:Int) 1=j-i:=by
 unfold Jm;have h1:(1:Int)>0:=by decide
 simp only[h1,if_true,Int.ediv_one];split <;>omega
theorem ZiQ{v:Yd}{o:Option Int}{Q:Option Int->Yf->Prop}(p:IsPart v o)(h:Q o s):Y8 (ao prog w) A (Builtin.Slice.slicePartIndex v) Q E s:=by
 cases p with
 |none=>exact slicePart_none h|int i t=>exact slicePart_int h
theorem Vv{sl:Ys}{vl vu:Yd}{lo hi:Option Int}{n:Nat}{Q:Int×Int×Nat->Yf->Prop}(hs:s.heap.IsSliceOf sl vl vu .none)(pl:IsPart vl lo)(pu:IsPart vu hi)(h:Q (((aA n 0 lo:Nat):Int),1,aA n n hi-aA n 0 lo) s):Y8 (ao prog w) A (Z5 (.ref sl) (pure (n:Int))) Q E s:=by obtain⟨os,hos,hcs,hds⟩:=id hs;unfold Z5 Builtin.Slice.sliceFields;refine Yc (Yc (lO hos hds (x:=vl) rfl (Yc (lO hos hds (x:=vu) rfl (Yc (lO hos hds (x:=.none) rfl (Yn ?_)))))));refine Yc (slicePart_none ?_);show Y8 _ _ (if((1:Int)==0)=true then _ else _) _ _ s;rw[if_neg (by decide)];refine Yc (ZiQ pl (Yc (ZiQ pu (Yc (Yn ?_)))));show Y8 _ _ (match Qo lo hi 1 (n:Int)with|(lo,hi)=>pure (lo,(1:Int),Jm lo hi 1)) _ _ s;rw[Zmo lo hi n];show Y8 _ _ (pure (((aA n 0 lo:Nat):Int),(1:Int),Jm ((aA n 0 lo:Nat):Int) ((aA n n hi:Nat):Int) 1)) _ _ s;rw[ZmQ];exact Yn h
theorem ZqN(xs:Array Yd)(i k:Nat):((iV k).filterMap λ(m:Nat)=>xs[((i:Int)+(m:Int)*1).toNat]?).toArray=((xs.toList.drop i).take k).toArray:=by
 have e:(λ(m:Nat)=>xs[((i:Int)+(m:Int)*1).toNat]?)=λm=>xs[i+m]?:=by
  funext m;have:((i:Int)+(m:Int)*1).toNat=i+m:=by omega
  rw[this]
 rw[e];have:=pick_run xs i k;rw[List.filterMap_map]at this;have e2:((λx=>xs[x]?) ∘ λx=>i+x)=λm=>xs[i+m]?:=rfl;rw[e2]at this;rw[this]
theorem Aab{t sl:Ys}{items:Array Yd}{vl vu:Yd}{lo hi:Option Int}{Q:Yd->Yf->Prop}(ht:IsTup s.heap t items)(hs:s.heap.IsSliceOf sl vl vu .none)(pl:IsPart vl lo)(pu:IsPart vu hi)(hw:¬(aA items.size 0 lo=0/\aA items.size items.size hi=items.size))(h:Q (.ref s.heap.objs.size) {s with heap:=s.heap.push {cls:=.type "tuple",data:=.seq ((items.toList.drop (aA items.size 0 lo)).take (aA items.size items.size hi-aA items.size 0 lo)).toArray}})(hsz:items.size<=bF):Y8 (ao prog w) A (pG (.ref t) (.ref sl)) Q E s:=by
 have Hy:sizeOk (.seq ((items.toList.drop (aA items.size 0 lo)).take (aA items.size items.size hi-aA items.size 0 lo)).toArray):=by show((items.toList.drop (aA items.size 0 lo)).take (aA items.size items.size hi-aA items.size 0 lo)).toArray.size<=bF;rw[Yt,xu,XD,Qe];exact lD 3 85606880155602945 T1 hsz (DW _ _) (Ph _ _)
 have hj:aA items.size items.size hi<=items.size:=JQ _ _ (Yo _) hi;obtain⟨os,hos,hcs,hds⟩:=id hs;have hTs:s.TypeIs (.ref sl) "slice":=⟨os,hos,hcs⟩;unfold pG
 try with_reducible refine h_ ?_
 first|refine Yc (Yn ?_)|skip
 refine Yc (N7 ht.typeIs (by decide) ?_);refine Yc (wV (name:=lV "__getitem__") ht.typeIs Jc
  (u_ Jc ht.typeIs YS ?_ (YW _ _)))
 show Y8 _ _ (Z7 (.ref t)>>=_) _ _ s;refine Yc (tupleItemsOf_ ht ?_);refine Yc (HX hTs ?_);rw[if_pos (by decide)];refine Yc (Vv hs pl pu ?_);have hno:¬((((aA items.size 0 lo:Nat):Int)==0&&(1:Int)==1&&(aA items.size items.size hi-aA items.size 0 lo)==items.size)=true):=by intro q;rw[Y5,Y5]at q;have q1:((aA items.size 0 lo:Nat):Int)=0:=eq_of_beq q.1.1;have q2:aA items.size items.size hi-aA items.size 0 lo=items.size:=eq_of_beq q.2;exact hw ⟨by exact gn (iN [_] [] 1 3759016097 T1 q1) (d8 _),by exact gn hj (lC 2 2268279672881 T1 q2 (DW _ _))⟩
 show Y8 _ _ (if(((aA items.size 0 lo:Nat):Int)==0&&(1:Int)==1&&(aA items.size items.size hi-aA items.size 0 lo)==items.size)=true then _ else _) _ _ s;rw[if_neg hno,ZqN]
 first
  |exact Yc (m:=Jq _) (qZ (Yn ⟨_,rfl,Yn h⟩) Hy)
  |exact Yc (m:=Jq _) (qZ (Yc (Yn (Yn ⟨_,rfl,Yn h⟩))) Hy)
  |exact Yc (Yc (m:=Jq _) (qZ (Yn (Yn ⟨_,rfl,Yn h⟩)) Hy))
  |exact Yc (Yc (m:=Jq _) (qZ (Yn ⟨_,rfl,Yn h⟩) Hy))
end
end _HT
namespace _L2
open PySem PySem.Spec PyProof.Rows
noncomputable abbrev TO:=St->Hp->(Option Int->Hp->Prop)->Prop
def PO(X:Cx)(e:Option Expr)(t:TO):Prop:=
 ∀(pins:List (Ys×aD)) (s:Yf) (σ:St) (H:Hp) (Q:Option Int->Hp->Prop),Inv X pins σ H s->t σ H Q ->
  Y8 (ao X.prog X.w) X.A (evalPart e X.env) (λu s'=>∃o H',Inv X pins σ H' s'/\IsPart u o/\Q o H') X.xe s
def Zs4:TO:=λ_ H Q=>Q Yj H
def Zws(t:TE):TO:=λσ H Q=>t σ H λx H1=>∃i,x= .int i/\Q (Ya i) H1
section
variable {X:Cx} {e:Expr} {te:TE} {lo hi:Option Expr} {tl th:TO} {pos p2:aP}
theorem Zso:PO X Yj Zs4:=by intro pins s σ H Q I h;rw[evalPart_none];exact Yn ⟨Yj,H,I,.none,h⟩
theorem ZsI(h:PE X e te):PO X (Ya e) (Zws te):=by intro pins s σ H Q I hw;rw[evalPart_some];refine aH (h pins s σ H _ I hw) λu s1 ak=>?_;obtain⟨x,H1,I1,r1,q1⟩:=ak;obtain⟨i,rfl,q⟩:=q1;obtain⟨t,rfl⟩:=r1;exact⟨Ya i,H1,I1,.int i t,q⟩
def jm(X:Cx)(r:V->Option Int->Option Int->Hp->VK->Prop):Prop:=
 ∀(pins:List (Ys×aD)) (s:Yf) (σ:St) (H:Hp) (x:V) (v vl vu:Yd) (lo hi:Option Int) (sl:Ys) (Q:VK),Inv X pins σ H s->RelV x v->s.heap.IsSliceOf sl vl vu .none->IsPart vl lo->IsPart vu hi->r x lo hi H Q ->
  ∃T id,Ol (.type T) "__getitem__" =pure (Ya (.builtin id))/\s.TypeIs v T/\Y8 (ao X.prog X.w) X.A (pG v (.ref sl)) (EP X pins σ Q) X.xe s
theorem jm.or{r r':V->Option Int->Option Int->Hp->VK->Prop}(h:jm X r)(h':jm X r'):jm X (λx lo hi H Q=>r x lo hi H Q\/r' x lo hi H Q):=by
 intro pins s σ H x v vl vu lo hi sl Q I rx hs pl pu q;rcases q with q|q
 .exact h pins s σ H x v vl vu lo hi sl Q I rx hs pl pu q
 .exact h' pins s σ H x v vl vu lo hi sl Q I rx hs pl pu q
def tSl(r:V->Option Int->Option Int->Hp->VK->Prop)(te:TE)(tl th:TO):TE:=λσ H Q=>te σ H λx H1=>tl σ H1 λl H2=>th σ H2 λu H3=>r x l u H3 Q
theorem Zqz{r:V->Option Int->Option Int->Hp->VK->Prop}(hr:jm X r)(he:PE X e te)(hl:PO X lo tl)(hu:PO X hi th):PE X (.Subscript e (.Slice lo hi Yj p2) pos) (tSl r te tl th):=by intro pins s σ H Q I h;refine PL (aH (he pins s σ H _ I h) λv s1 ak=>?_);obtain⟨x,H1,I1,r1,q1⟩:=ak;refine wpAny_Slice (aH (hl pins s1 σ H1 _ I1 q1) λvl s2 ⟨l,H2,I2,pl,q2⟩=>aH (hu pins s2 σ H2 _ I2 q2) λvu s3 ak=>?_);obtain⟨u,H3,I3,pu,q3⟩:=ak;rw[evalPart_none];refine Yn ?_;have I4:Inv X pins σ H3 {s3 with heap:=s3.heap.push {cls:=.type "slice",data:=.fields #[vl,vu,.none]}}:=I3.kept (t':=s3.toks) λb ob q=>Yi _ q;obtain⟨T,id,hT,ht,hg⟩:=hr pins {s3 with heap:=s3.heap.push {cls:=.type "slice",data:=.fields #[vl,vu,.none]}} σ H3 x v vl vu l u s3.heap.objs.size Q I4 r1 (Heap.IsSliceOf.new ..) pl pu q3;show Y8 (ao X.prog X.w) X.A (PJ e (.Slice lo hi Yj p2) v (.ref s3.heap.objs.size)) (EP X pins σ Q) X.xe {s3 with heap:=s3.heap.push {cls:=.type "slice",data:=.fields #[vl,vu,.none]}};exact tail_any (ops:=[.ref s3.heap.objs.size,v]) ht hT hg (by with_unfolding_all rfl)
noncomputable def vP(xs:List V)(lo hi:Option Int):List V:=(xs.drop (_HT.aA xs.length 0 lo)).take (_HT.aA xs.length xs.length hi-_HT.aA xs.length 0 lo)
theorem Zhq(xs:List V)(lo hi:Option Int):(vP xs lo hi).length<=xs.length:=by unfold vP;rw[xu,XD];exact Yp (Ph _ _) (DW _ _)
noncomputable def Zyj(K:Yb):V->Option Int->Option Int->Hp->VK->Prop:=λx lo hi H Q=>∃a xs,x= .ref a/\cM K H a xs/\
 ¬(_HT.aA xs.length 0 lo=0/\_HT.aA xs.length xs.length hi=xs.length)/\∀p,H p=Yj->Q (.ref p) (upd H p (.tup (vP xs lo hi)))
theorem Zuv:jm X (Zyj X.K):=by
 intro pins s σ H x v vl vu lo hi sl Q I rx hs pl pu h;obtain⟨a,xs,rfl,hx,hw,q⟩:=h;cases rx;obtain⟨its,r,ht,hz⟩:=I.tuple hx;have hlen:its.toArray.size=xs.length:=by rw[Yt];exact r.length.symm
 refine⟨"tuple",_,PyProof.Rows.slot_tuple_getitem.lookup,ht.typeIs,?_⟩;refine _HT.Aab ht hs pl pu (by rw[hlen];exact hw) ?_ (by rw[hlen];exact hz);rw[hlen];refine⟨.ref s.heap.objs.size,_,I.laid (t':=s.toks) (o:=.tup (vP xs lo hi)) (λb ob q=>Yi _ q) (Yo _) ?_,rfl,q _ (I.hok.fresh (Yo _))⟩;exact⟨Yp (Zhq xs lo hi) hz,_,(r.drop (_HT.aA xs.length 0 lo)).take (_HT.aA xs.length xs.length hi-_HT.aA xs.length 0 lo),tZ.new _ _⟩
def Zwt(K:Yb):R2:=λx y H Q=>∃a b xs ys,x= .ref a/\y= .ref b/\cM K H a xs/\cM K H b ys/\xs≠[]/\xs.length+ys.length<=bF/\
 (ys=[]->Q (.ref a) H)/\(ys≠[]->∀p,H p=Yj->Q (.ref p) (upd H p (.tup (xs++ys))))
theorem Vals.MP{xs:List V}{us:List Yd}(r:Vals xs us):us=[]↔xs=[]:=by
 cases r with
 |nil=>simp|cons _ _=>simp
theorem Zsj:bh X (jU .Add) (Zwt X.K):=by intro pins s σ H x y v u Q I rx ry h;obtain⟨a,b,xs,ys,rfl,rfl,ha,hb,hx,hz,q1,q2⟩:=h;cases rx;cases ry;obtain⟨its,r1,p1,_⟩:=I.tuple ha;obtain⟨its2,r2,p2,_⟩:=I.tuple hb;refine _HT.Ab3 p1 p2 (λz=>hx (r1.MP.mp z)) (λz=>⟨.ref a,H,I,rfl,q1 (r2.MP.mp z)⟩) (λz=>?_) (by rw[←r1.length,←r2.length];exact hz);refine⟨.ref s.heap.objs.size,_,I.laid (t':=s.toks) (o:=.tup (xs++ys)) (λb ob q=>Yi _ q) (Yo _) ?_,rfl,q2 (λw=>z (r2.MP.mpr w)) _ (I.hok.fresh (Yo _))⟩;exact⟨by rw[Yl];exact hz,_,r1.append r2,tZ.new _ _⟩
end
end _L2
namespace _L2
open PySem PySem.Spec PyProof.Rows
noncomputable def Ey(n:Nat)(i:Int):Option Nat:=if 0<=i then(if i<n then Ya i.toNat else Yj)else if -(n:Int)<=i then Ya (i+n).toNat else Yj
noncomputable def xZ{α:Type}(xs:List α)(i:Int):Option α:=(Ey xs.length i).bind λj=>xs[j]?
theorem Zns{n:Nat}{i:Int}{j:Nat}(h:Ey n i=Ya j):Ou i n=Ya j/\j<n/\ -(n:Int)<=i/\i<n:=by
 unfold Ey at h;by_cases h0:0<=i
 .rw[if_pos h0]at h;by_cases h1:i<n
  .rw[if_pos h1]at h;have e:i.toNat=j:=Y9 h;exact⟨by rw[seqIndex_of h0 h1,e],by exact iN [_,_,_] [_] 3 0x211008a1280911031 T1 e h1 (zZ h0),by exact iN [_] [_] 1 144182913 T1 h0,h1⟩
  .rw[if_neg h1]at h;cases h
 .rw[if_neg h0]at h;by_cases h1:-(n:Int)<=i
  .rw[if_pos h1]at h;have e:(i+n).toNat=j:=Y9 h;exact⟨by rw[seqIndex_neg (by exact Jj.1 h0) h1,e],by exact iN [_,_,_] [_] 3 0x211280c08a10ec11031 T1 e h0 (zZ (iN [_] [_] 1 8851524979073 T1 h1)),h1,by exact iN [_] [_] 1 134811329 T1 h0⟩
  .rw[if_neg h1]at h;cases h
theorem Rc{α:Type}{xs:List α}{i:Int}{v:α}(h:xZ xs i=Ya v):∃j,Ou i xs.length=Ya j/\xs[j]?=Ya v/\j<xs.length/\ -(xs.length:Int)<=i/\i<xs.length:=by
 unfold xZ at h;cases e:Ey xs.length i with
 |none=>rw[e]at h;cases h|some j=>rw[e]at h;obtain⟨h1,h2,h3,h4⟩:=Zns e;exact⟨j,h1,h,h2,h3,h4⟩
def ZnS(b:Expr):Prop:=∀o i,HY b false o i=operate [o,i] (pG o i)
def j_(X:Cx)(r:R2):Prop:=
 ∀(value slice:Expr) (pins:List (Ys×aD)) (s:Yf) (σ:St) (H:Hp) (x y:V) (v u:Yd) (Q:VK),Inv X pins σ H s->RelV x v->RelV y u->r x y H Q ->
  HY slice false v u=operate [v,u] (pG v u)->Y8 (ao X.prog X.w) X.A (PJ value slice v u) (EP X pins σ Q) X.xe s
def m5(X:Cx)(id:String)(r:V->List V->Hp->VK->Prop):Prop:=
 ∀(pins:List (Ys×aD)) (s:Yf) (σ:St) (H:Hp) (x:V) (xs:List V) (v:Yd) (us:List Yd) (Q:VK),Inv X pins σ H s->RelV x v->Vals xs us->r x xs H Q ->
  Y8 (ao X.prog X.w) X.A (call (.builtin id) (v::us)) (EP X pins σ Q) X.xe s
section
variable {X:Cx} {a b:Expr} {ta tb:TE} {pos:aP}
theorem j_.or{r r':R2}(h:j_ X r)(h':j_ X r'):j_ X (λx y H Q=>r x y H Q\/r' x y H Q):=by
 intro value slice pins s σ H x y v u Q I rx ry q hs;rcases q with q|q
 .exact h value slice pins s σ H x y v u Q I rx ry q hs
 .exact h' value slice pins s σ H x y v u Q I rx ry q hs
theorem ZwJ{r:R2}(hr:j_ X r)(ha:PE X a ta)(hb:PE X b tb)(hs:ZnS b):PE X (.Subscript a b pos) (Af r ta tb):=by intro pins s σ H Q I h;exact PL (QZ ha hb I h λv u s2 x y H2 I2 rx ry q=>hr a b pins s2 σ H2 x y v u Q I2 rx ry q (hs _ _))
def Zw6(K:Yb):R2:=λx y H Q=>∃p xs i v,x= .ref p/\y= .int i/\bD K H p xs/\xZ xs i=Ya v/\Q v H
def Zwa(K:Yb):R2:=λx y H Q=>∃p xs i v,x= .ref p/\y= .int i/\cM K H p xs/\xZ xs i=Ya v/\Q v H
def Zwd:R2:=λx y H Q=>∃z i c,x= .str z/\y= .int i/\z.length<=bF/\xZ z.cps.toList i=Ya c/\Q (.str ⟨#[c]⟩) H
theorem Zsr:j_ X (Zw6 X.K):=by
 intro value slice pins s σ H x y v u Q I rx ry h hs;obtain⟨p,xs,i,z,rfl,rfl,hq,he,q⟩:=h;cases rx;obtain⟨t,rfl⟩:=ry;obtain⟨its,r,pl,hz⟩:=I.list hq;obtain⟨j,h1,h2,h3,h4,h5⟩:=Rc he;obtain⟨w,ew,i_⟩:=r.get h2;have hl:=r.length;have hn:=JM;have fin:EP X pins σ Q w s:=⟨z,H,I,i_,q⟩;by_cases h0:0<=i
 .have hj:i.toNat=j:=by
   rw[seqIndex_of h0 h5]at h1;exact Y9 h1
  exact item_listR pl.isList h0 (by omega) (by rw[hj];simpa using ew) fin hs
 .have hj:(i+(its.toArray.size:Int)).toNat=j:=by
   rw[seqIndex_neg (by exact Jj.1 h0) h4]at h1;rw[Yt,←hl];exact Y9 h1
  exact YM (x:=w) pl.isList.typeIs slot_list_getitem.lookup
   (wpAny_getItem_list_neg (Q:=λr s'=>r=w/\EP X pins σ Q r s') pl.isList (by exact Jj.1 h0) (by rw[Yt]<;>exact iN [_,_] [_] 2 6922527515414561 T1 hl h4) (by omega) (by rw[hj];simpa using ew) ⟨rfl,fin⟩) hs
theorem ZuY:j_ X (Zwa X.K):=by
 intro value slice pins s σ H x y v u Q I rx ry h hs;obtain⟨p,xs,i,z,rfl,rfl,hq,he,q⟩:=h;cases rx;obtain⟨t,rfl⟩:=ry;obtain⟨its,r,pl,hz⟩:=I.tuple hq;obtain⟨j,h1,h2,h3,h4,h5⟩:=Rc he;obtain⟨w,ew,i_⟩:=r.get h2;have hl:=r.length;have hn:=JM;have fin:EP X pins σ Q w s:=⟨z,H,I,i_,q⟩;exact YM (x:=w) pl.typeIs slot_tuple_getitem.lookup
  (getItem_tuple (j:=j) (Q:=λr s'=>r=w/\EP X pins σ Q r s') pl (by omega) (by omega) (by rw[Yt,←hl];exact h1) (by simpa using ew) ⟨rfl,fin⟩) hs
theorem ZuR:j_ X Zwd:=by
 intro value slice pins s σ H x y v u Q I rx ry h hs;obtain⟨z,i,c,rfl,rfl,hz,he,q⟩:=h;obtain⟨t,rfl⟩:=rx;obtain⟨t',rfl⟩:=ry;obtain⟨j,h1,h2,h3,h4,h5⟩:=Rc he;have hl:z.cps.toList.length=z.length:=by simp[pJ]
 rw[hl]at h1 h4 h5;have hn:=JM;exact tail_any (zA s z t) slot_str_getitem.lookup (getItem_str (c:=c) (by have e1:decide (i< -(2^63:Int))=false:=decide_eq_false (by omega);have e2:decide (i>=2^63)=false:=decide_eq_false (by omega);rw[e1,e2,Ja]) (by rw[h1];simpa using h2) ⟨.str ⟨#[c]⟩,H,I.tok _,⟨_,rfl⟩,q⟩) hs
def rIx(K:Yb):R2:=λx y H Q=>Zw6 K x y H Q\/Zwa K x y H Q\/Zwd x y H Q
theorem Zvp:j_ X (rIx X.K):=Zsr.or (ZuY.or ZuR)
theorem Inv.lst{pins:List (Ys×aD)}{σ:St}{H:Hp}{s:Yf}{p:Ys}{xs:List V}(I:Inv X pins σ H s)(h:H p=Ya (.lst xs)):
  ∃(its:List Yd) (n:Nat),Vals xs its/\s.heap.get? p=Ya {cls:=.type "list",data:=.seq its.toArray n}/\xs.length<=bF:=by
 obtain⟨z,its,n,r,e⟩:=I.hok p _ h;exact⟨its,n,r,e,z⟩
theorem ZkE(lo hi:Option Int)(n:Nat):(xg lo hi Yj n).1=((_HT.aA n 0 lo:Nat):Int)/\(xg lo hi Yj n).2.1=((_HT.aA n n hi:Nat):Int)/\(xg lo hi Yj n).2.2=1:=by
 refine⟨?_,?_,rfl⟩
 .cases lo with
  |none=>simp[xg,_HT.aA]|some i=>
   simp only[xg,_HT.aA,Wv,show(1:Int)>0 by decide,if_true];by_cases h:i<0
   .simp only[h,if_true]<;>exact QC _ _ h
   .simp only[h,if_false]<;>exact QD _ _ h
 .cases hi with
  |none=>simp[xg,_HT.aA]|some i=>
   simp only[xg,_HT.aA,Wv,show(1:Int)>0 by decide,if_true];by_cases h:i<0
   .simp only[h,if_true]<;>exact QC _ _ h
   .simp only[h,if_false]<;>exact QD _ _ h
theorem Zi6(its:List Yd)(lo hi:Option Int):slicePick its.toArray lo hi Yj=((its.drop (_HT.aA its.length 0 lo)).take (_HT.aA its.length its.length hi-_HT.aA its.length 0 lo)).toArray:=by obtain⟨h1,h2,h3⟩:=ZkE lo hi its.toArray.size;unfold slicePick;rw[h1,h2,h3];simp only[sliceRange_one,pick_run,Yt]<;>rfl
noncomputable def Zx8(K:Yb):V->Option Int->Option Int->Hp->VK->Prop:=λx lo hi H Q=>∃a xs,x= .ref a/\bD K H a xs/\∀p,H p=Yj->Q (.ref p) (upd H p (.lst (vP xs lo hi)))
theorem Zr1:jm X (Zx8 X.K):=by intro pins s σ H x v vl vu lo hi sl Q I rx hs pl pu h;obtain⟨a,xs,rfl,hx,q⟩:=h;cases rx;obtain⟨its,r,ht,hz⟩:=I.list hx;have hlen:=r.length;refine⟨"list",_,slot_list_getitem.lookup,ht.isList.typeIs,?_⟩;refine wpAny_getItem_list_slice ht.isList hs pl pu .none (by simp) ?_ (by rw[Yt]<;>exact lC 2 2268279672881 T1 hlen hz);rw[Zi6,←hlen];refine⟨.ref s.heap.objs.size,_,I.laid (t':=s.toks) (o:=.lst (vP xs lo hi)) (λb ob q=>Yi _ q) (Yo _) ?_,rfl,q _ (I.hok.fresh (Yo _))⟩;exact⟨Yp (Zhq xs lo hi) hz,_,0,(r.drop (_HT.aA xs.length 0 lo)).take (_HT.aA xs.length xs.length hi-_HT.aA xs.length 0 lo),Y1 _ rfl⟩
noncomputable def rH:V->Bool
 | .non=>true|.bl _=>true|.int _=>true|.str _=>true
 |_=>false
noncomputable def uc:V->V->Bool
 | .non,.non=>true|.bl a,.bl b=>a==b|.bl a,.int b=>(if a then 1 else 0)==b|.int a,.bl b=>a==(if b then 1 else 0)
 | .int a,.int b=>a==b|.str a,.str b=>a==b|_,_=>false
theorem ZuG{A:bj}{s:Yf}{y x:V}{u v:Yd}(ry:RelV y u)(rx:RelV x v)(fy:rH y=true)(fx:rH x=true):rm A s u v (uc y x):=by
 cases y with
 |non=>
  cases ry
  cases x with
  |non=>cases rx;exact Qt _|bl b=>cases rx;exact Z_ b|int b=>obtain⟨t,rfl⟩:=rx;exact Yjs b t|str b=>obtain⟨t,rfl⟩:=rx;exact Yjt b t
  |_=>exact absurd (show false=true from fx) oA
 |bl a=>
  cases ry
  cases x with
  |non=>cases rx;exact Yi9 a|bl b=>cases rx;exact Yja a b|int b=>obtain⟨t,rfl⟩:=rx;exact Yju a b t|str b=>obtain⟨t,rfl⟩:=rx;exact Yjv a b t
  |_=>exact absurd (show false=true from fx) oA
 |int a=>
  obtain⟨t',rfl⟩:=ry;cases x with
  |non=>cases rx;exact Yjw a t'|bl b=>cases rx;exact Yjx a t' b|int b=>obtain⟨t,rfl⟩:=rx;exact Ykj a t' b t|str b=>obtain⟨t,rfl⟩:=rx;exact Qs a t' b t
  |_=>exact absurd (show false=true from fx) oA
 |str a=>
  obtain⟨t',rfl⟩:=ry;cases x with
  |non=>cases rx;exact Yjy a t'|bl b=>cases rx;exact Yjz a t' b|int b=>obtain⟨t,rfl⟩:=rx;exact Jr a t' b t|str b=>obtain⟨t,rfl⟩:=rx;exact Ykk a t' b t
  |_=>exact absurd (show false=true from fx) oA
 |_=>exact absurd (show false=true from fy) oA
noncomputable def ud(x:V)(u:Yd):Bool:=match u with
 | .none=>uc .non x|.bool b=>uc (.bl b) x|.int i _=>uc (.int i) x|.str z _=>uc (.str z) x
 |_=>false
theorem Zp6{x y:V}{u:Yd}(r:RelV y u)(f:rH y=true):ud x u=uc y x:=by
 cases y with
 |non=>cases r;rfl|bl b=>cases r;rfl|int i=>obtain⟨t,rfl⟩:=r;rfl|str z=>obtain⟨t,rfl⟩:=r;rfl
 |_=>exact absurd (show false=true from f) oA
theorem Rf{x:V}:∀{xs:List V} {us:List Yd},Vals xs us->xs.all rH=true->us.any (ud x)=xs.any λy=>uc y x
 |_,_,.nil,_=>rfl|y::xs,u::us,.cons r t,f=>by rw[iU,Y5]at f;rw[jY,jY,Zp6 r f.1,Rf t f.2]
theorem Rg{A:bj}{s:Yf}{x:V}{v:Yd}(rx:RelV x v)(fx:rH x=true):∀{xs:List V} {us:List Yd},Vals xs us->xs.all rH=true->∀u∈us,rm A s u v (ud x u)
 |_,_,.nil,_=>λu hu=>by cases hu|y::xs,u::us,.cons r t,f=>λu' hu=>by
  rw[iU,Y5]at f;rcases Ym.mp hu with rfl|hu
  .rw[Zp6 r f.1];exact ZuG r rx f.1 fx
  .exact Rg rx fx t f.2 u' hu
noncomputable def inV(x:V)(xs:List V):Bool:=xs.any λy=>uc y x
def rIn(K:Yb)(neg:Bool):R2:=λx y H Q=>∃p xs,y= .ref p/\(bD K H p xs\/cM K H p xs)/\rH x=true/\xs.all rH=true/\Q (.bl (if neg then !inV x xs else inV x xs)) H
theorem Zo8:bh X (fX .In) (rIn X.K false):=by
 intro pins s σ H x y v u Q I rx ry h;obtain⟨p,xs,rfl,hq,fx,fs,q⟩:=h;cases ry;rcases hq with hq|hq
 .obtain⟨its,r,pl,hz⟩:=I.list hq;refine Z9 (ud x) pl.isList (λw hw=>Rg rx fx r fs w (by simpa using hw)) ⟨.bl _,H,I,rfl,?_⟩;rw[show its.toArray.any (ud x)=its.any (ud x)by simp,Rf r fs];exact q
 .obtain⟨its,r,pl,hz⟩:=I.tuple hq;refine SeqAt.in_tupleAt (ud x) pl (λw hw=>Rg rx fx r fs w (by simpa using hw)) ⟨.bl _,H,I,rfl,?_⟩;rw[show its.toArray.any (ud x)=its.any (ud x)by simp,Rf r fs];exact q
theorem cN.or{f:Yd}{r r':List V->Hp->VK->Prop}(h:cN X f r)(h':cN X f r'):cN X f (λxs H Q=>r xs H Q\/r' xs H Q):=by
 intro pins s σ H xs us Q I rs q;rcases q with q|q
 .exact h pins s σ H xs us Q I rs q
 .exact h' pins s σ H xs us Q I rs q
theorem Zjg:cN X (.type "tuple") (λxs H Q=>∃p ys,xs=[.ref p]/\((bD X.K H p ys/\∀l,H l=Yj->Q (.ref l) (upd H l (.tup ys)))\/(cM X.K H p ys/\Q (.ref p) H))):=by
 intro pins s σ H xs us Q I r h;obtain⟨p,ys,rfl,h⟩:=h;obtain⟨u,rfl,rx⟩:=vals1 r;cases rx;rcases h with⟨hq,q⟩|⟨hq,q⟩
 .obtain⟨its,r',pl,hz⟩:=I.list hq;have hlen:=r'.length;refine call_tuple_list pl.isList (λh' kp=>?_) (by simp only[Yt]<;>exact lC 2 2268279672881 T1 hlen hz);have I1:Inv X pins σ H {s with heap:=h'}:=I.kept (t':=s.toks) kp;have I2:Inv X pins σ (upd H h'.objs.size (.tup ys)) {s with heap:=h'.push {cls:=.type "tuple",data:=.seq its.toArray}}:=
   I1.laid (t':=s.toks) (λb o e=>Yi _ e) (Yo _) (show cR X.prog X.w _ _ _ (.tup ys)from⟨hz,its,r',tZ.new _ _⟩)
  exact⟨.ref h'.objs.size,_,I2,rfl,q _ (I1.hok.fresh (Yo _))⟩
 .obtain⟨its,r',pl,hz⟩:=I.tuple hq;exact call_tuple_same pl ⟨.ref p,H,I,rfl,q⟩
def x_(K:Yb)(T:String)(x:V)(H:Hp):Prop:=match x with
 | .str _=>T= "str"|.int _=>T= "int"|.ref p=>(T= "list" /\∃xs,bD K H p xs)\/(T= "tuple" /\∃o,K.lookup p=Ya o/\o.cls= .type "tuple" /\o.dict=Yj)\/
   (T= "dict" /\((∃kvs,H p=Ya (.dK kvs))\/∃kvs,H p=Ya (.dT kvs)))\/(T= "set" /\∃S n,H p=Ya (.set S n))
 |_=>False
theorem Zp8{pins:List (Ys×aD)}{σ:St}{H:Hp}{s:Yf}{T:String}{x:V}{v:Yd}(I:Inv X pins σ H s)(r:RelV x v)(ty:x_ X.K T x H):
  s.TypeIs v T/\∀a,v= .ref a->∃ob,s.heap.get? a=Ya ob/\ob.dict=Yj:=by
 cases x with
 |str z=>obtain⟨t,rfl⟩:=r;cases(show T= "str" from ty);exact⟨zA s z t,λ_ e=>nomatch e⟩|int i=>obtain⟨t,rfl⟩:=r;cases(show T= "int" from ty);exact⟨typeIs_int s i t,λ_ e=>nomatch e⟩|ref p=>
  cases r
  rcases ty with⟨rfl,xs,hq⟩|⟨rfl,o,hk,hc,hd⟩|⟨rfl,hk⟩|⟨rfl,S,n,hk⟩
  .obtain⟨its,_,pl,_⟩:=I.list hq;refine⟨pl.isList.typeIs,λa e=>?_⟩;cases e;obtain⟨o,n,e,c,hd,_⟩:=pl;exact⟨o,e,hd⟩
  .refine⟨⟨o,I.bN p o hk,hc⟩,λa e=>?_⟩;cases e;exact⟨o,I.bN _ o hk,hd⟩
  .have z:∃o,s.heap.get? p=Ya o/\o.ExactDict:=by
    rcases hk with⟨kvs,hk⟩|⟨kvs,hk⟩
    .obtain⟨_,_,_,_,o,_,_,e,ex,_⟩:=I.hok p _ hk;exact⟨o,e,ex⟩
    .obtain⟨_,_,_,_,o,_,_,e,ex,_⟩:=I.hok p _ hk;exact⟨o,e,ex⟩
   obtain⟨o,e,ex⟩:=z;refine⟨⟨o,e,ex.1⟩,λa e2=>?_⟩;cases e2;exact⟨o,e,ex.2.1⟩
  .obtain⟨o,_,_,_,e,ex,_⟩:=I.hok p _ hk;refine⟨⟨o,e,ex.1⟩,λa e2=>?_⟩;cases e2;exact⟨o,e,ex.2.1⟩
 |_=>exact dR ty
def Zxd(K:Yb)(T:String)(r:V->List V->Hp->VK->Prop)(to:TE):TE:=λσ H Q=>to σ H λx H1=>x_ K T x H1/\r x [] H1 Q
def tBM(K:Yb)(T:String)(r:V->List V->Hp->VK->Prop)(to:TE)(t:TA):TE:=λσ H Q=>to σ H λx H1=>x_ K T x H1/\t σ H1 λxs H2=>r x xs H2 Q
variable {o e:Expr} {es:List Expr} {to:TE} {t:TA} {name:aj} {apos cpos:aP} {T id:String} {r:V->List V->Hp->VK->Prop}
theorem Zug(pa:PlainAttrs T)(slot:Slot T name id)(hty:typeOf (.builtin id)=pure (.type "method_descriptor"))(hm:m5 X id r)(ho:PE X o to)(hbase:autoParam (mO o name X.env (aF o X.env)=aF o X.env) qA)(hline:autoParam ((apos.endLine==cpos.line)=true) qA):PE X (.Call (.Attribute o name apos) [] [] cpos) (Zxd X.K T r to):=by intro pins s σ H Q I h;refine wpAny_Call_method0_late hbase hline (aH (ho pins s σ H _ I h) λv s1 ak=>?_);obtain⟨x,H1,I1,r1,ty,q1⟩:=ak;obtain⟨h1,h2⟩:=Zp8 I1 r1 ty;exact⟨T,id,pa,slot,hty,h1,h2,Qv rfl (PySem.evalArgs_none (hm pins s1 σ H1 x [] v [] Q I1 r1 .nil q1))⟩
theorem JR(pa:PlainAttrs T)(slot:Slot T name id)(hty:typeOf (.builtin id)=pure (.type "method_descriptor"))(hm:m5 X id r)(ho:PE X o to)(ha:PA X (e::es) t)(hbase:autoParam (mO o name X.env (aF o X.env)=aF o X.env) qA)(hfew:((bK cpos (Yq (e::es) X.env)).all (λx=>!x.1)&&(iC cpos (iB [] X.env)).all (λx=>x.1.isSome)
   &&decide ((e::es).length+([]:List Keyword).length+(if([]:List Keyword).isEmpty then 0 else 1)<30))=true:=by rfl)(hline:autoParam ((apos.endLine==cpos.line)=true) qA)(hs:autoParam (Yq (e::es) X.env=(false,aF e X.env)::Yq es X.env) qA)(hplain:autoParam ((bK cpos (Yq es X.env)).any (·.1)=false) qA):
  PE X (.Call (.Attribute o name apos) (e::es) [] cpos) (tBM X.K T r to t):=by
 intro pins s σ H Q I h;refine wpAny_Call_method_late hbase hfew hline rfl (aH (ho pins s σ H _ I h) λv s1 ak=>?_);obtain⟨x,H1,I1,r1,ty,q1⟩:=ak;obtain⟨h1,h2⟩:=Zp8 I1 r1 ty;refine⟨T,id,pa,slot,hty,h1,h2,?_⟩;have hA:=ha cpos pins s1 σ H1 _ I1 q1;rw[hs]at hA ⊢;refine Qv (by show(false|| (bK cpos (Yq es X.env)).any (·.1))=false;rw[hplain]<;>rfl) (Qw ?_);exact aH hA λus s2 ⟨vs,H2,I2,r2,q2⟩=>hm pins s2 σ H2 x vs v us Q I2 r1 r2 q2
/-xs.append(e),list.index on a module's tuple .. are m5 facts of 06m -/
end
end _L2
namespace _L2
open PySem PySem.Spec PyProof.Rows
def Rh(X:Cx)(id:String)(r:V->List V->Hp->VK->Prop):Prop:=
 ∀(pins:List (Ys×aD)) (s:Yf) (σ:St) (H:Hp) (x:V) (xs:List V) (v:Yd) (us:List Yd) (Q:VK),Inv X pins σ H s->RelV x v->Vals xs us->r x xs H Q ->
  Y8 (ao X.prog X.w) X.A (call (.builtin id) (v::us)) (EP X pins σ Q) X.xe s
variable{us:List Yd}
theorem Vals.one{x:V}(h:Vals [x] us):∃u,us=[u]/\RelV x u:=by
 cases h with
 |cons r h=>cases h;exact⟨_,rfl,r⟩
theorem Vals.two{x y:V}(h:Vals [x,y] us):∃u v,us=[u,v]/\RelV x u/\RelV y v:=by
 cases h with
 |cons r h=>obtain⟨v,rfl,q⟩:=Vals.one h;exact⟨_,v,rfl,r,q⟩
theorem Vals.zero:∀{us:List Yd},Vals [] us->us=[]
 |_,.nil=>rfl
theorem Vals.dropLast{xs:List V}(h:Vals xs us):Vals xs.dropLast us.dropLast:=by
 induction h with
 |nil=>exact .nil|cons r t ih=>
  cases t with
  |nil=>exact .nil|cons q t'=>exact .cons r ih
theorem Vals.eraseIdx:∀{xs:List V} {us:List Yd} (i:Nat),Vals xs us->Vals (xs.eraseIdx i) (us.eraseIdx i)
 |_,_,_,.nil=>.nil|_,_,0,.cons _ t=>t|_,_,i+1,.cons r t=>.cons r (Vals.eraseIdx i t)
theorem Vals.reverse{xs:List V}(h:Vals xs us):Vals xs.reverse us.reverse:=by
 induction h with
 |nil=>exact .nil|cons r t ih=>rw[Dz,Dz];exact Vals.append ih (.cons r .nil)
theorem Zmd{α:Type}(l:List α):l.eraseIdx (l.length-1)=l.dropLast:=by
 induction l with
 |nil=>rfl|cons a r ih=>
  cases r with
  |nil=>rfl|cons b r=>
   have e:(a::b::r).length-1=((b::r).length-1)+1:=by have h1:(a::b::r).length=r.length+2:=rfl;have h2:(b::r).length=r.length+1:=rfl;exact gn (lE 4 0xa4c30a4c0012a3c2121b1c221a1c031 T1 h2 h1 (j4 (lB 1 687760064561 T1 h1)) (jH _ _)) (lE 4 0x3a4c00a4c21a3c20121b1c231a1c021 T1 h2 h1 (jH _ _) (j4 (lB 1 2694955057 T1 h2)))
   rw[e,List.eraseIdx_cons_succ,ih]
   all_goals rfl
theorem Zjq{α:Type}:∀(l:List α) (i:Nat),(l.eraseIdx i).length<=l.length
 |[],_=>Yo _|_::_,0=>vI _|_::r,i+1=>zX (Zjq r i)
section
variable {X:Cx} {pins:List (Ys×aD)} {σ:St} {H:Hp} {s:Yf} {l b:Ys} {xs ys zs:List V}
theorem Inv.Nf{its its':List Yd}{n:Nat}{f:Array Yd->Array Yd}{t':Nat}(I:Inv X pins σ H s)(hH:H l=Ya (.lst xs))(e:s.heap.get? l=Ya {cls:=.type "list",data:=.seq its.toArray n})(hf:f its.toArray=its'.toArray)(hv:Vals ys its')(hz:ys.length<=bF):
  Inv X pins σ (upd H l (.lst ys)) {s with heap:=s.heap.update l (Obj.mapSeq f),toks:=t'}:=by
 have q:=PySem.IsL.update e f;rw[hf]at q;refine I.write (x:=l) (e:=l) (by rw[hH];exact trivial) (.inl rfl) (λb' u hb hu=>(mR s.heap (Obj.mapSeq f) (bT hb)).trans hu) ⟨_,q⟩ ?_;exact⟨hz,its',_,hv,q⟩
theorem Inv.AcH{its:List Yd}{t':Nat}(I:Inv X pins σ H s)(hv:Vals ys its)(hz:ys.length<=bF):
  Inv X pins σ (upd H s.heap.objs.size (.lst ys)) {s with heap:=s.heap.push {cls:=.type "list",data:=.seq its.toArray},toks:=t'}:=
 I.laid (λ_ _ q=>Yi _ q) (Yo _) ⟨hz,its,0,hv,Y1 _ rfl⟩
theorem Inv.fresh(I:Inv X pins σ H s):H s.heap.objs.size=Yj:=I.hok.fresh (Yo _)
theorem Inv.Dc(I:Inv X pins σ H s)(hH:H l=Ya (.lst xs)):xs.length<=bF/\∃(its:List Yd) (n:Nat),Vals xs its/\xs.length=its.length/\s.heap.get? l=Ya {cls:=.type "list",data:=.seq its.toArray n}:=by obtain⟨z,its,n,r,e⟩:=I.hok l _ hH;exact⟨z,its,n,r,r.length,e⟩
end
section
variable {X:Cx}
noncomputable def ZnR:V->List V->Hp->VK->Prop:=λx vs H Q=>∃l xs y,x= .ref l/\vs=[y]/\H l=Ya (.lst xs)/\xs.length<bF/\Q .non (upd H l (.lst (xs++[y])))
theorem Ri:Rh X "list.append" ZnR:=by intro pins s σ H x vs v us Q I rx rv h;obtain⟨l,xs,y,rfl,rfl,hH,hz,q⟩:=h;cases rx;obtain⟨u,rfl,ru⟩:=rv.one;obtain⟨z,its,n,r,hl,e⟩:=I.Dc hH;refine zB F.slot_list_append ⟨_,e,rfl⟩ F.entry_list_append (F.args_list_append_2 _ _) (PySem.list_append l its.toArray n u (by rw[Yt];exact lC 2 2268279672881 T1 hl z)) ⟨e,?_⟩;refine⟨.non,_,I.Nf (its':=its++[u]) hH e (by simp) (r.append (.cons ru .nil)) ?_,rfl,q⟩;rw[Yl,lQ];exact lB 1 6991908881 T1 hz
noncomputable def Zw5:V->List V->Hp->VK->Prop:=λx vs H Q=>∃l xs y,x= .ref l/\vs=[]/\H l=Ya (.lst xs)/\xs[xs.length-1]?=Ya y/\Q y (upd H l (.lst xs.dropLast))
theorem ZuB:Rh X "list.pop" Zw5:=by
 intro pins s σ H x vs v us Q I rx rv h;obtain⟨l,xs,y,rfl,rfl,hH,hy,q⟩:=h;cases rx;have hus:=rv.zero;subst hus;obtain⟨z,its,n,r,hl,e⟩:=I.Dc hH;obtain⟨u,hu,ru⟩:=r.get hy;have hy':its.toArray[its.toArray.size-1]?=Ya u:=by show its.toArray[its.length-1]?=Ya u;rw[←Qd,←hl];exact hu
 refine zB Z4 ⟨_,e,rfl⟩ Z3 (F.args_list_pop_1 _) (MeetsSeq.list_pop_last l its.toArray n u hy' (by rw[Yt];exact lC 2 2268279672881 T1 hl z)) ⟨e,?_⟩;refine⟨y,_,I.Nf (its':=its.dropLast) hH e ?_ r.dropLast ?_,ru,q⟩
 .show its.toArray.eraseIdxIfInBounds (its.toArray.size-1)=its.dropLast.toArray;rw[Yt,Xj,Zmd]
 .rw[Xu];exact Yp (DW _ _) z
noncomputable def ZqO:V->List V->Hp->VK->Prop:=λx vs H Q=>∃l xs i k y,x= .ref l/\vs=[.int i]/\H l=Ya (.lst xs)/\ -(2^63)<=i/\i<2^63/\Ou i xs.length=Ya k/\xs[k]?=Ya y/\Q y (upd H l (.lst (xs.eraseIdx k)))
theorem Zqa:Rh X "list.pop" ZqO:=by
 intro pins s σ H x vs v us Q I rx rv h;obtain⟨l,xs,i,k,y,rfl,rfl,hH,h1,h2,hk,hy,q⟩:=h;cases rx;obtain⟨u,rfl,ru⟩:=rv.one;obtain⟨t,rfl⟩:=ru;obtain⟨z,its,n,r,hl,e⟩:=I.Dc hH;obtain⟨w,hw,i_⟩:=r.get hy;refine zB Z4 ⟨_,e,rfl⟩ Z3 (F.args_list_pop_2 _ _)
  (MeetsSeq.list_pop_at l its.toArray n i t k w (fitsIndex_both h1 h2) (by rw[Yt,←hl];exact hk) (by rw[←Qd];exact hw) (by rw[Yt];exact lC 2 2268279672881 T1 hl z)) ⟨e,?_⟩
 refine⟨y,_,I.Nf (its':=its.eraseIdx k) hH e ?_ (r.eraseIdx k) ?_,i_,q⟩
 .show its.toArray.eraseIdxIfInBounds k=(its.eraseIdx k).toArray;rw[Xj]
 .have:=Zjq xs k;exact Yp this z
def Zyk:R2:=λx y H Q=>∃l b xs zs,x= .ref l/\y= .ref b/\H l=Ya (.lst xs)/\H b=Ya (.lst zs)/\xs.length+zs.length<=bF/\∀p,H p=Yj->Q (.ref p) (upd H p (.lst (xs++zs)))
theorem ZuQ:bh X (jU .Add) Zyk:=by
 intro pins s σ H x y v u Q I rx ry h;obtain⟨l,b,xs,zs,rfl,rfl,hH,hB,hz,q⟩:=h;cases rx;cases ry;obtain⟨z,its,n,r,hl,e⟩:=I.Dc hH;obtain⟨z2,its2,n2,r2,hl2,e2⟩:=I.Dc hB;refine PySem.P.add_list e e2 ?_ (by rw[Yt,Yt];exact lE 3 0x413c0402c0132311031 T1 hl2 hl hz);have ea:its.toArray++its2.toArray=(its++its2).toArray:=by simp
 rw[ea];exact⟨.ref _,_,I.AcH (t':=s.toks) (r.append r2) (by rw[Yl];exact hz),rfl,q _ I.fresh⟩
end
end _L2
namespace _Att
open PySem PySem.W PySem.Calls PyProof.Rows
theorem ZhK{P:Params}{h:au}:∀(ns:List Int) (vs:List Yd),WellAll P h vs (ns.map WData.int)->IntsAre vs ns:=by
 intro ns
 induction ns with
 |nil=>intro vs w;rw[vD]at w;cases w;exact .nil|cons n ns ih=>
  intro vs w;rw[Yv]at w;cases w with
  |cons a b=>
   cases a
   exact .cons _ _ (ih _ b)
theorem Zpj{l:OpenLaw}{n:Nat}(hn:l.most=Ya n){P:Params}{h:au}{args:List WData}{vals:List Yd}(hpre:l.row.toRowW.claim.pre args=true)(hwl:WellAll P h vals args):
  ∃a vs ns,vals=[Value.ref a]/\args=[WData.list (ns.map WData.int)]/\h.get? a=Ya {cls:=.type "list",data:=.seq vs.toArray}/\IntsAre vs ns/\ns.length<=n:=by
 have hsh:WShape.hasAll [] args [.list .int]=true:=(pre_splitW hpre).1;have hc:l.pre.holds [] {args:=args}=true:=(pre_splitW hpre).2;obtain⟨d,r,rfl,h1,h2⟩:=hasAllW_cons hsh;obtain rfl:=hasAllW_nil h2;obtain⟨xs,rfl,h3⟩:=hasW_list h1;obtain⟨ns,rfl⟩:=items_int h3;have hlen:ns.length<=n:=by
  unfold OpenLaw.pre at hc;have h4:(WTm.not (.lt (.lit (.int (n:Int))) (.len (.arg 0)))).holds [] {args:=[.list (ns.map .int)]}=true:=by have h4:=(holds_andW hc).1;rw[hn]at h4;exact h4
  have h5:=condW_of h4 (w_not (w_lt w_lit (w_len_list (w_arg rfl))));rw[Yw]at h5;refine iW λq=>?_;have q':(n:Int)<((ns.length:Nat):Int):=by exact Ji.2 q
  first
   |(rw[decide_eq_true q']at h5;exact absurd h5 (by decide))
   |(simp at h5;omega)
 cases hwl with
 |cons w1 w2=>
  cases w2
  cases w1 with
  |list ho hall=>exact⟨_,_,ns,rfl,rfl,ho,ZhK ns _ hall,hlen⟩
theorem ZoU(l:OpenLaw)(args:List WData):l.row.toRowW.claim.post args (.bool true) args=true:=
 postW_of (r:=l.row.toRowW) (X:=(true==true))
  (show WShape.has [] (.bool true) .bool=true by first|rfl|decide|simp[WShape.has,WShape.arms,WShape.armsAll])
  (show(WTm.eq .res (.lit (.bool true))).value [] {args:=args,res:=Ya (.bool true),after:=args}=Ya (.bool (true==true))from w_eq_bool (w_res rfl) w_lit) rfl
theorem AaT{l:OpenLaw}{n:Nat}{q:aZ}{loose:List aj}{XP:(aj->Option Yd)->au->Prop}{YP:aU->au->Prop}{d:DefRec}(hn:l.most=Ya n)(hdf:d.params.defaults=[])(call:∀(w:aU) (s₀ s₁:Yf) (mg mb:aj->Option Yd) (fa:Ys) (o:aD) (pm cd doc:Yd) (a:Ys) (vs:List Yd) (ns:List Int),
   Ground q loose [] XP w s₀ mg mb s₁.heap->YP w s₁.heap ->
   s₁.heap.get? fa=Ya o->o.data= .func (docDef d.name d.params d.body d.scope pm cd doc)->s₁.heap.CodeRec cd d.name->mg d.name=Ya (.ref fa) ->
   s₁.heap.get? a=Ya {cls:=.type "list",data:=.seq vs.toArray}->IntsAre vs ns->ns.length<=n->s₁.gens= #[] ->
   jt (ao l.prog w) vg (.call (.ref fa) ⟨[.ref a],[]⟩) (λr s'=>r= .ok (.ret (.bool true))/\OldK s₁.heap s'.heap/\s'.os=s₁.os/\q_ s'.gens) s₁):
  WalkO q loose XP YP l.row.toRowW d [] (λf vs=>Om f vs):=by
 intro w s₀ s₁ mg mb G Y fa o pm cd doc dV kV ho hd hcd hD hmg hg args vals as hpre hlay hrd hwl hlo;obtain rfl:dV= .none:=Dflts.none hD hdf;obtain rfl:kV= .none:=Dflts.noKw hD;obtain⟨a,vs,ns,rfl,rfl,hobj,hints,hlen⟩:=Zpj hn hpre hwl;refine enter_call (pC (call w s₀ s₁ mg mb fa o pm cd doc a vs ns G Y ho (fd_plain hd) hcd hmg hobj hints hlen hg) λr s' hq=>?_);obtain⟨rfl,h2,h3,h4⟩:=hq;exact⟨.inl ⟨.bool true,.bool true,[],rfl,λ_=>rfl,.bool true,ZoU l _,λ_=>⟨List.Pairwise.nil,λ_ hm=>(nomatch hm)⟩⟩,h2,h3,h4⟩
end _Att
namespace _L2
open PySem PySem.Spec PyProof.Rows
theorem Zjn:∀{vs:List Yd} {ns:List Int},IntsAre vs ns->Vals (ns.map V.int) vs
 |_,_,.nil=>.nil|_,_,.cons n t h=>.cons ⟨t,rfl⟩ (Zjn h)
def Only(H:Hp):Prop:=∀b,H b=Yj\/∃o xs,H b=Ya (.b7 o (.lst xs))
theorem ZqL{P:aZ}{w:aU}{K:Yb}{mg mb:aj->Option Yd}{CX:mY}{k:Nat}{fa a:Ys}{fd:jl}{x:aj}{sp:Sp}{s₁:Yf}{vs:List Yd}{ns:List Int}(KX:K.In s₁.heap)(hns:s₁.heap.Ns Yu mg)(hb:s₁.heap.Ns Oi mb)(hbb:∀x:aj,x≠ "__name__" ->mb x=jr x)(hlim:s₁.heap.NoLimit)(hg:s₁.gens= #[])(ha:s₁.heap.get? a=Ya {cls:=.type "list",data:=.seq vs.toArray})(hi:IntsAre vs ns)(hl:ns.length<=bF)(hr:cD k vg)(F:∀base:au,K.In base->base.Ns Yu mg->fM P w K mg base CX k fa fd [x] sp)(hbind:∀(s:Yf) (u:Yd),zF s fd ⟨[u],[]⟩ [(x,u)])(hsp:∀H:Hp,Only H->bD K H a (ns.map V.int)->sp [.ref a] H (λv _=>v= .bl true) λ_ _ _=>False)(Rj:∀H e s',CX [] H s₁ (λ_ _ _=>False) e s'->False):
  jt (ao P w) vg (.call (.ref fa) ⟨[.ref a],[]⟩) (λr s'=>r= .ok (.ret (.bool true))/\OldK s₁.heap s'.heap/\s'.os=s₁.os/\q_ s'.gens) s₁:=by
 have rv:=Zjn hi;have lenV:=hi.length;have core:∀H:Hp,Only H->bD K H a (ns.map V.int)->fD P w H s₁.heap->(∀b,H b≠Yj->b=a)->(H a≠Yj->K.lookup a=Yj) ->
   jt (ao P w) vg (.call (.ref fa) ⟨[.ref a],[]⟩) (λr s'=>r= .ok (.ret (.bool true))/\OldK s₁.heap s'.heap/\s'.os=s₁.os/\q_ s'.gens) s₁:=by
  intro H hO hS hok hA hK;have VR:∀{b:Ys} {o:aD},s₁.heap.get? b=Ya o->H b=Yj->(t6 s₁.heap H).get? b=Ya o:=λe n=>Zqv e n;have Et:∀{b:Ys} {o:aD} {es:Array DictEntry} {ep:Nat},s₁.heap.get? b=Ya o->o.data= .dict es ep->H b=Yj:=λ{b o es ep} e d=>by
   cases q:H b with
   |none=>rfl|some u=>have e':b=a:=hA b (by rw[q];simp);subst e';rw[ha]at e;cases e;have d':Data.seq vs.toArray _=Data.dict es ep:=d;cases d'
  have JS:∀{b:Ys} {m:aj->Option Yd},s₁.heap.Ns b m->(t6 s₁.heap H).Ns b m:=λ{b m} ⟨o,es,ep,e,d,r⟩=>⟨o,es,ep,VR e (Et e d),d,r⟩;have hKb:K.In (t6 s₁.heap H):=λb o e=>VR (KX b o e) (by
   cases q:H b with
   |none=>rfl|some u=>have e':b=a:=hA b (by rw[q];simp);subst e';rw[hK (by rw[q];simp)]at e;cases e)
  have hM:Mod K mg (t6 s₁.heap H):=⟨hKb,JS hns,⟨mb,JS hb,hbb⟩,let⟨mc,h1,h2⟩:=hlim;⟨mc,JS h1,h2⟩⟩;have e0:rG P w K mg (t6 s₁.heap H) vg [] s₁ H:=⟨rfl,hM,λb o e=>Ztk e,tW (Zoq _ _),trivial,λb hb=>absurd (show b∈([]:List Ys)from hb) (by simp),hok,.of_eq hg⟩;refine pC ((F _ hKb (JS hns)).run vg [] s₁ H ⟨[.ref a],[]⟩ [.ref a] [.ref a] _ _ hr e0 (hbind s₁ (.ref a)) (.cons rfl .nil) (hsp H hO hS)) λr s' h=>?_;cases r with
  |error e=>exact(Rj H e s' h).elim|ok fl=>
   cases fl with
   |next=>exact dR h|brk=>exact dR h|cont=>exact dR h|ret u=>
    obtain⟨v,H',os,bare,un,hok',r',q⟩:=h;have q':v= .bl true:=q;subst q';obtain rfl:u=Value.bool true:=r';refine⟨rfl,OldK.of_keep λb o e=>?_,os,bare⟩;cases q:H b with
    |none=>exact un.keep b o e q (by intro z;exact absurd (show b∈([]:List Ys)from z) (by simp)) (by simp)|some u=>
     rcases hO b with z|⟨ob,xs,z⟩
     .rw[q]at z;cases z
     .have z2:=un.jD b ob _ z;obtain⟨e1,_⟩:=hok b _ z;obtain⟨e2,_⟩:=hok' b _ z2;rw[e]at e1;cases e1;exact e2
 cases hk:K.lookup a with
 |some o=>have e:=KX a o hk;rw[ha]at e;cases e;refine core (λ_=>Yj) (λ_=>.inl rfl) (.inr ⟨_,vs.toArray,_,hk,rfl,rfl,rfl,by rw[Yt,lenV];exact hl,by simpa using rv⟩) (λb u z=>by have z':(Yj:Option HO)=Ya u:=z;cases z') (λb z=>absurd rfl z) λz=>absurd rfl z|none=>
  refine core (λb=>if b=a then Ya (.b7 {cls:=.type "list",data:=.seq vs.toArray} (.lst (ns.map V.int)))else Yj) (λb=>?_) (.inl (.inr ⟨{cls:=.type "list",data:=.seq vs.toArray},if_pos rfl⟩)) (λb u z=>?_) (λb z=>?_) λ_=>hk
  .by_cases hb:b=a
   .exact .inr ⟨_,_,if_pos hb⟩
   .exact .inl (if_neg hb)
  .by_cases hb:b=a
   .have z':=(if_pos hb).symm.trans z;cases z';subst hb;exact⟨ha,by rw[Yw];exact hl,vs,_,rv,ha⟩
   .have z':=(if_neg hb).symm.trans z;cases z'
  .by_cases hb:b=a
   .exact hb
   .exact absurd (if_neg hb) z
end _L2
namespace _L2
open PySem PySem.Spec PyProof.Rows
theorem Zoi{l:PySem.W.OpenLaw}{n k:Nat}{q:aZ}{loose:List aj}{XP:(aj->Option Yd)->au->Prop}{YP:aU->au->Prop}{d:DefRec}{K:Params->Yb}{CX:aU->mY}{sp:aU->Sp}{x:aj}(hn:l.most=Ya n)(hn2:n<=bF)(hdf:d.params.defaults=[])(hr:cD k vg)(hY:∀(w:aU) (h:au),YP w h->(K w.params).In h)(F:∀(w:aU) (mg:aj->Option Yd) (fa:Ys) (h:au),(K w.params).In h->h.Ns Yu mg->mg d.name=Ya (.ref fa) ->
   ∃fd:jl,(∀(s:Yf) (u:Yd),zF s fd ⟨[u],[]⟩ [(x,u)])/\
    ∀base:au,(K w.params).In base->base.Ns Yu mg->fM l.prog w (K w.params) mg base (CX w) k fa fd [x] (sp w))(hsp:∀(w:aU) (H:Hp) (a:Ys) (ns:List Int),ns.length<=n->Only H->bD (K w.params) H a (ns.map V.int)->sp w [.ref a] H (λv _=>v= .bl true) λ_ _ _=>False)(Rj:∀(w:aU) (H:Hp) (s:Yf) (e:Yd) (s':Yf),CX w [] H s (λ_ _ _=>False) e s'->False):
  WR q loose XP YP l.row.toRowW d [] (λf vs=>Om f vs):=by
 refine _Att.AaT hn hdf λw s₀ s₁ mg mb fa o pm cd doc a vs ns G Y ho hd hcd hmg hobj hints hlen hg=>?_;have KX:=hY w _ Y;obtain⟨fd,hb,hF⟩:=F w mg fa _ KX G.T.g hmg;exact ZqL KX G.T.g G.T.b G.T.builtins G.T.nolimit hg hobj hints (Yp hlen hn2) hr hF hb (λH hO hS=>hsp w H a ns hlen hO hS) λH e s'=>Rj w H s₁ e s'
end _L2
/-THE LAST THEOREM (shape;LID,My.*are AeQ):
  My.Adr:a structure of the addresses that your layer names (classes,functions);My.Txt K t:a structure (Prop) of the equations over K;
  My.Aci:{K} {implicit addresses ..} (e1:nsIn K Yu "law" =Ya (Ya (.ref f))) (e2:K.lookup f=Ya ⟨oc,od,.func (fnOf "law" "law" params body scope dV kV doc pm an cdv ct),sl⟩) (e3:codeIn K cdv "law" =true) ..:∃t,My.Txt K t
set_option maxRecDepth 100000 in
set_option maxHeartbeats 0 in
theorem PySem.Challenge.cw_LID_holds : PySem.Challenge.rw_LID.Holds := by
 w_on;o_law;k_head;(case hw=>w_witness2)
 k_fill
 refine _L2.Zoi (l:=PySem.Challenge.rw_LID) (n:=63) (k:=40) (x:="script") (CX:=λw=>..) (sp:=λ_=>My.sp_law) rfl (by decide) rfl ⟨rfl,by decide,by decide⟩ (λw h Y=>PySem.W.kIn_of Y) ?F ?S ?C
 case F=>
  intro w mg fa h KX G hmg;have T:∃t,My.Txt (_L2.KOf KX) t:=by
   dsimp only[_L2.KOf]                          --K must stand as «<heap const>w.params» for k_is;refine' My.Aci ?e1 ?e2 ?e3 ..
   (case e1=>PySem.W.k_is)                    --in the order:a name->its address->its object->its parts
   (case e2=>PySem.W.k_is)
   ..
  obtain⟨t,T⟩:=T;have e0:=hmg.symm.trans (WT KX G T.law);cases e0                                       --fa is the law's own address;exact⟨_,λs u=>.of_eq rfl,λbase kb nb=>My.Acj T kb nb⟩     --if «.of_eq rfl» comes too early:refine'⟨_,?b,λbase kb nb=>My.Acj T kb nb⟩;exactλs u=>.of_eq rfl
 case S=>exactλw H a ns hl hO hS=>..
 case C=>exact ..
(the tactic k_is has no namespace:write k_is) -/
namespace _L2
open PySem PySem.Spec PyProof.Rows
noncomputable def cO(s:Ydr):Arguments:=match s with
 | .FunctionDef _ a _ _ _ _ _ _ _ _=>a|_=>{posonlyargs:=[],args:=[],vararg:=Yj,kwonlyargs:=[],kw_defaults:=[],kwarg:=Yj,defaults:=[]}
noncomputable def bU(s:Ydr):List Ydr:=match s with
 | .FunctionDef _ _ b _ _ _ _ _ _ _=>b|_=>[]
noncomputable def Zh(s:Ydr):Scope:=match s with
 | .FunctionDef _ _ _ _ _ _ sc _ _ _=>sc|_=>{kind:=.function,names:=[],isGenerator:=false,isCoroutine:=false}
noncomputable abbrev jK:mY:=λ_ _ _ _ _ _=>False
noncomputable abbrev E0:XK:=λ_ _ _=>False
theorem Ztw{X:Cx}:Es jK X E0:=λ_ _ _ _ _ _ _ h=>h.elim
structure oK(K:Yb)(x qual:aj)(st:Ydr)(f:Ys)(fd:jl):Prop where
 ex:∃(oc:Yd) (od:Option Ys) (dV kV doc pm:Yd) (an:Option Ys) (cdv ct:Yd) (osl:Array (Option Yd)),
  fd=nZ x qual (cO st) (bU st) (Zh st) dV kV doc pm an cdv ct/\K.lookup f=Ya ⟨oc,od,.func fd,osl⟩/\zq K cdv qual=true
 kp:pB K (.ref f)=true
section
variable {P:aZ} {w:aU} {K:Yb} {mg:aj->Option Yd} {base:au}
theorem oK.ok{x qual:aj}{st:Ydr}{f:Ys}{fd:jl}{N ps:List aj}{k:Nat}{sp:Sp}(F:oK K x qual st f fd)(S:dw N ps (Zh st))(len:∀vs H Q E,sp vs H Q E->vs.length=ps.length)(hbody:∀(cdv:Yd) (A:bj) (outer:List cH) (s:Yf) (H:Hp) (vs:List V) (Q:VK) (E:XK),cD k (A.deeper (j7 qual (Zh st) s.heap.objs.size f cdv))->sp vs H Q E ->
   ∃t,iZ (mZ jK P w K mg base N qual (Zh st) f cdv A outer s H E).iu (bU st) t/\t {nx:=λ_ H'=>Q .non H',rt:=Q} (start N vs) H):fM P w K mg base jK (k+1) f fd ps sp:=by
 obtain⟨oc,od,dV,kV,doc,pm,an,cdv,ct,osl,rfl,lk,hcd⟩:=F.ex;refine Ra lk hcd S len λA outer s H vs Q E hr hsp=>?_;obtain⟨t,h,q⟩:=hbody cdv A outer s H vs Q E hr hsp;exact⟨t,h.iu,q⟩
theorem oK.binds{x qual:aj}{st:Ydr}{f:Ys}{fd:jl}{ps:List aj}(F:oK K x qual st f fd)(h:∀(dV kV doc pm:Yd) (an:Option Ys) (cdv ct:Yd) (us:List Yd),us.length=ps.length->bindArgs (nZ x qual (cO st) (bU st) (Zh st) dV kV doc pm an cdv ct) ⟨us,[]⟩=pure (ps.zip us)):Binds K fd ps []:=by obtain⟨oc,od,dV,kV,doc,pm,an,cdv,ct,osl,rfl,lk,hcd⟩:=F.ex;exact .all (h dV kV doc pm an cdv ct)
theorem Zrb{x qual:aj}{st:Ydr}{f:Ys}{oc:Yd}{od an:Option Ys}{osl:Array (Option Yd)}{dV kV doc pm cdv ct:Yd}(l:K.lookup f=Ya ⟨oc,od,.func (nZ x qual (cO st) (bU st) (Zh st) dV kV doc pm an cdv ct),osl⟩)(c:zq K cdv qual=true)(k:pB K (.ref f)=true):oK K x qual st f (nZ x qual (cO st) (bU st) (Zh st) dV kV doc pm an cdv ct):=⟨⟨oc,od,dV,kV,doc,pm,an,cdv,ct,osl,rfl,l,c⟩,k⟩
end
def vQ(H H':Hp):Prop:=∀b o,H b=Ya o->H' b=Ya o
theorem vQ.trans{H H1 H2:Hp}(a:vQ H H1)(b:vQ H1 H2):vQ H H2:=λc o h=>b c o (a c o h)
theorem vQ.free{H H':Hp}(e:vQ H H'){l:Ys}(h:H' l=Option.none):H l=Option.none:=by
 cases q:H l with
 |none=>rfl|some o=>rw[e l o q]at h;cases h
theorem vQ.seq{K:Yb}{H H':Hp}{a:Ys}{xs:List V}(e:vQ H H')(h:bD K H a xs):bD K H' a xs:=by
 rcases h with(h|⟨o,h⟩)|h
 .exact .inl (.inl (e _ _ h))
 .exact .inl (.inr ⟨o,e _ _ h⟩)
 .exact .inr h
end _L2
namespace _L2
open PySem PySem.Spec PyProof.Rows
section
variable {κ:Type} [DecidableEq κ]
noncomputable def kh(kvs:List (κ×V))(k:κ):Option V:=(kvs.find? λkv=>decide (kv.1=k)).map (·.2)
noncomputable def putK(kvs:List (κ×V))(k:κ)(v:V):List (κ×V):=if(kvs.any λkv=>decide (kv.1=k))=true then kvs.map (λkv=>if kv.1=k then(kv.1,v)else kv)else kvs++[(k,v)]
theorem Zqr{k:κ}:kh ([]:List (κ×V)) k=Yj:=rfl
theorem JT{p:κ×V}{r:List (κ×V)}{k:κ}(e:p.1=k):kh (p::r) k=Ya p.2:=by simp[kh,zU,e]
theorem JV{p:κ×V}{r:List (κ×V)}{k:κ}(e:¬p.1=k):kh (p::r) k=kh r k:=by simp[kh,zU,e]
theorem Zlh(k:κ):∀kvs:List (κ×V),(kvs.any λkv=>decide (kv.1=k))=(kh kvs k).isSome
 |[]=>rfl|p::r=>by
  rw[jY];by_cases e:p.1=k
  .simp only[JT e,decide_eq_true e,Bool.true_or,Wu]
  .rw[JV e,decide_eq_false e,YF];exact Zlh k r
theorem mW.Abw{o:Option V}{u:Option Yd}(r:mW o u):o.isSome=u.isSome:=by
 cases o with
 |none=>cases u with
  |none=>rfl|some _=>exact(show False from r).elim
 |some _=>cases u with
  |none=>exact(show False from r).elim|some _=>rfl
theorem mW.getD{o:Option V}{u:Option Yd}{d:V}{d':Yd}(r:mW o u)(rd:RelV d d'):RelV (o.getD d) (u.getD d'):=by
 cases o with
 |none=>cases u with
  |none=>exact rd|some _=>exact(show False from r).elim
 |some _=>cases u with
  |none=>exact(show False from r).elim|some _=>exact r
theorem KV.val{kvs:List (κ×V)}{vs:List (κ×Yd)}(r:KV kvs vs)(k:κ):mW (kh kvs k) (zG vs k):=by
 unfold KV at r
 induction r with
 |nil=>exact True.intro|@cons p q ps qs h t ih=>
  obtain⟨h1,h2⟩:=h;by_cases e:p.1=k
  .have e':q.1=k:=h1.symm.trans e;have b:zG (q::qs) k=Ya q.2:=by simp[zG,zU,e']
   rw[JT e,b];exact h2
  .have e':¬q.1=k:=λz=>e (h1.trans z);have b:zG (q::qs) k=zG qs k:=by simp[zG,zU,e']
   rw[JV e,b];exact ih
theorem KV.any{kvs:List (κ×V)}{vs:List (κ×Yd)}(r:KV kvs vs)(k:κ):(kvs.any λkv=>decide (kv.1=k))=vs.any λkv=>decide (kv.1=k):=by
 unfold KV at r
 induction r with
 |nil=>rfl|cons h t ih=>rw[jY,jY,ih,h.1]
theorem KV.repl{kvs:List (κ×V)}{vs:List (κ×Yd)}(r:KV kvs vs)(k:κ){y:V}{u:Yd}(ry:RelV y u):
  KV (kvs.map λkv=>if kv.1=k then(kv.1,y)else kv) (vs.map λkv=>if kv.1=k then(kv.1,u)else kv):=by
 unfold KV at r ⊢
 induction r with
 |nil=>exact .nil|@cons p q ps qs h t ih=>
  rw[Yv,Yv];refine .cons ?_ ih;obtain⟨h1,h2⟩:=h;by_cases e:p.1=k
  .rw[if_pos e,if_pos (h1.symm.trans e)];exact⟨h1,ry⟩
  .rw[if_neg e,if_neg (λz=>e (h1.trans z))];exact⟨h1,h2⟩
theorem KV.put{kvs:List (κ×V)}{vs:List (κ×Yd)}(r:KV kvs vs)(k:κ){y:V}{u:Yd}(ry:RelV y u):KV (putK kvs k y) (stored vs k u):=by
 unfold putK stored;rw[r.any k];by_cases e:(vs.any λkv=>decide (kv.1=k))=true
 .rw[if_pos e,if_pos e];exact r.repl k ry
 .rw[if_neg e,if_neg e];exact Paired.snoc r ⟨rfl,ry⟩
theorem KV.length{kvs:List (κ×V)}{vs:List (κ×Yd)}(r:KV kvs vs):kvs.length=vs.length:=Ym1 r
end
noncomputable abbrev KT(H:Hp):List (List Key×V)->List (List Key×Ys×Yd)->Prop:=Paired λp q=>p.1=q.1/\H q.2.1=Ya (.tup (p.1.map kV))/\RelV p.2 q.2.2
variable{kvs:List (List Key×V)}{xs:List (List Key×Ys×Yd)}{H:Hp}
theorem KT.val(r:KT H kvs xs)(k:List Key):mW (kh kvs k) ((vz xs k).map (·.2)):=by
 induction r with
 |nil=>exact True.intro|@cons p q ps qs h t ih=>
  obtain⟨h1,_,h2⟩:=h;by_cases e:p.1=k
  .have e':q.1=k:=h1.symm.trans e;have b:vz (q::qs) k=Ya q.2:=by simp[vz,zU,e']
   rw[JT e,b];exact h2
  .have e':¬q.1=k:=λz=>e (h1.trans z);have b:vz (q::qs) k=vz qs k:=by simp[vz,zU,e']
   rw[JV e,b];exact ih
theorem KT.repl(r:KT H kvs xs)(k:List Key){y:V}{u:Yd}(ry:RelV y u):
  KT H (kvs.map λkv=>if kv.1=k then(kv.1,y)else kv) (xs.map (putAt k u)):=by
 induction r with
 |nil=>exact .nil|@cons p q ps qs h t ih=>
  rw[Yv,Yv];refine .cons ?_ ih;obtain⟨h1,h2,h3⟩:=h;unfold putAt;by_cases e:p.1=k
  .rw[if_pos e,if_pos (h1.symm.trans e)];exact⟨h1,h2,ry⟩
  .rw[if_neg e,if_neg (λz=>e (h1.trans z))];exact⟨h1,h2,h3⟩
theorem KT.put(r:KT H kvs xs)(k:List Key){b:Ys}{y:V}{u:Yd}(hb:H b=Ya (.tup (k.map kV)))(ry:RelV y u):
  KT H (putK kvs k y) (storedH xs k b u):=by
 have e:(kvs.any λkv=>decide (kv.1=k))=(vz xs k).isSome:=by rw[Zlh,(r.val k).Abw,Option.isSome_map]
 unfold putK storedH;rw[e];by_cases q:(vz xs k).isSome=true
 .rw[if_pos q,if_pos q];exact r.repl k ry
 .rw[if_neg q,if_neg q];exact Paired.snoc r ⟨rfl,hb,ry⟩
theorem KT.keeps{H':Hp}(r:KT H kvs xs)(ht:∀b ys,H b=Ya (.tup ys)->H' b=Ya (.tup ys)):KT H' kvs xs:=Paired.Nb r λ_ _ z=>⟨z.1,ht _ _ z.2.1,z.2.2⟩
def JW(H:Hp)(a:Ys)(y:V)(r:Option V):Prop:=(∃kvs k,Rd H a (.dK kvs)/\y=kV k/\r=kh kvs k)\/∃kvs k b,Rd H a (.dT kvs)/\y= .ref b/\H b=Ya (.tup (k.map kV))/\r=kh kvs k
def JX(H:Hp)(a:Ys)(y v:V)(H':Hp):Prop:=
 (∃kvs k,H a=Ya (.dK kvs)/\y=kV k/\kvs.length<bF/\H'=upd H a (.dK (putK kvs k v)))\/
 ∃kvs k b,H a=Ya (.dT kvs)/\y= .ref b/\H b=Ya (.tup (k.map kV))/\kvs.length<bF/\H'=upd H a (.dT (putK kvs k v))
theorem JW.k{H:Hp}{a:Ys}{kvs:List (Key×V)}{k:Key}(e:H a=Ya (.dK kvs)):JW H a (kV k) (kh kvs k):=.inl ⟨kvs,k,.inl e,rfl,rfl⟩
theorem JW.t{a b:Ys}{k:List Key}(e:H a=Ya (.dT kvs))(eb:H b=Ya (.tup (k.map kV))):JW H a (.ref b) (kh kvs k):=.inr ⟨kvs,k,b,.inl e,rfl,eb,rfl⟩
theorem JX.k{H:Hp}{a:Ys}{kvs:List (Key×V)}{k:Key}{v:V}(e:H a=Ya (.dK kvs))(hl:kvs.length<bF):JX H a (kV k) v (upd H a (.dK (putK kvs k v))):=.inl ⟨kvs,k,e,rfl,hl,rfl⟩
theorem JX.t{a b:Ys}{k:List Key}{v:V}(e:H a=Ya (.dT kvs))(eb:H b=Ya (.tup (k.map kV)))(hl:kvs.length<bF):
  JX H a (.ref b) v (upd H a (.dT (putK kvs k v))):=.inr ⟨kvs,k,b,e,rfl,eb,hl,rfl⟩
def JZ(i:Expr):Prop:=∀ov iv,HY i false ov iv=operate [ov,iv] (pG ov iv)
theorem Zs9{prog:aZ}{w:aU}{A:bj}{E:Yd->Yf->Prop}{s:Yf}{env:cH}{value slice:Expr}{pos:aP}{T id:String}{Q:Yd->Yf->Prop}(hl:Ol (.type T) "__getitem__" =pure (Ya (.builtin id)))(hs:JZ slice)(h:Y8 (ao prog w) A (aF value env) (λo s₁=>Y8 (ao prog w) A (aF slice env) (λi s₂=>s₂.TypeIs o T/\Y8 (ao prog w) A (pG o i) Q E s₂) E s₁) E s):
  Y8 (ao prog w) A (aF (.Subscript value slice pos) env) Q E s:=by
 refine PL (fj h (λo s₁ h₁=>fj h₁ (λi s₂ h₂=>?_) λ_ _ x=>x) λ_ _ x=>x);obtain⟨hT,h₂⟩:=h₂;unfold PJ;refine Yc ?_;rw[getitemInPython_of_ne hT.not_modules];refine Yc (Xf hT hl ?_);have fin:Y8 (ao prog w) A (HY slice false o i) (λr s₃=>Y8 (ao prog w) A (letTemporaryGo value o r>>=λ_=>pure r) Q E s₃) E s₂:=by rw[hs o i];exact wpAny_operating (fj h₂ (λr s₃ h₃=>Yc (wpAny_letTemporaryGo (Yn h₃))) λ_ _ x=>x)
 first
  |exact Yn (Yc fin)
  |exact Yc (Yn (Yc fin))
  |exact Yc fin
structure M1(X:Cx)(o:Expr)(m:aj)(apos:aP)(e:Expr)(cpos:aP):Prop where
 base:mO o m X.env (aF o X.env)=aF o X.env
 few:((bK cpos (Yq [e] X.env)).all (λx=>!x.1)&&(iC cpos (iB [] X.env)).all (λx=>x.1.isSome)
  &&decide (([e]:List Expr).length+([]:List Keyword).length+(if([]:List Keyword).isEmpty then 0 else 1)<30))=true
 line:(apos.endLine==cpos.line)=true
 trees:bK cpos (Yq [e] X.env)=[(false,aF e X.env)]
structure M2(X:Cx)(o:Expr)(m:aj)(apos:aP)(e f:Expr)(cpos:aP):Prop where
 base:mO o m X.env (aF o X.env)=aF o X.env
 few:((bK cpos (Yq [e,f] X.env)).all (λx=>!x.1)&&(iC cpos (iB [] X.env)).all (λx=>x.1.isSome)
  &&decide (([e,f]:List Expr).length+([]:List Keyword).length+(if([]:List Keyword).isEmpty then 0 else 1)<30))=true
 line:(apos.endLine==cpos.line)=true
 trees:bK cpos (Yq [e,f] X.env)=[(false,aF e X.env),(false,aF f X.env)]
end _L2
namespace _L3
open PySem
variable{M:Store}{hi lo:Option Int}{T:m7}{env:Zx}{it:gU}
noncomputable section
inductive D where
 |non|bl (b:Bool)|int (i:Int)|str (x:List Nat)|tup (ds:List D)|a_ (ds:List D)|ref (n:Nat)
 deriving Inhabited
noncomputable abbrev gq:=Sum Int (List Nat)
inductive MO where
 |lst (xs:List D)|dct (kvs:List (gq×D))|cV (kvs:List (gq×D))|ins (c:List Nat) (fs:List (List Nat×D))
 deriving Inhabited
noncomputable abbrev Store:=List MO
structure X3 where
 cls:List Nat
 arg:D
inductive R3(α:Type)where
 |ok (a:α) (M:Store)|exc (x:X3) (M:Store)|bad
@[simp] noncomputable def R3.bind{α β:Type}(r:R3 α)(k:α->Store->R3 β):R3 β:=match r with
 | .ok a M=>k a M|.exc x M=>.exc x M|.bad=>.bad
theorem R3.Ab4{α β:Type}(a:α)(M:Store)(k:α->Store->R3 β):(R3.ok a M).bind k=k a M:=rfl
theorem ft{C:Prop}(h:false=true):C:=Bool.noConfusion h
theorem iH{α:Type}{C:Prop}{k:α}(h:Yj=Ya k):C:=by cases h
noncomputable def cT:Nat->D->Bool
 |_,.non=>true|_,.bl _=>true|_,.int _=>true|_,.str _=>true
 |n+1,.tup ds=>ds.all (cT n)|_,_=>false
noncomputable abbrev DEEP:Nat:=60
mutual
noncomputable def cG:D->D->Bool
 | .non,.non=>true|.bl a,.bl b=>a==b|.int a,.int b=>a==b|.str a,.str b=>a==b
 | .tup a,.tup b=>gD a b|.bl a,.int b=>(if a then 1 else 0)==b|.int a,.bl b=>a==(if b then 1 else 0)|_,_=>false
noncomputable def gD:List D->List D->Bool
 |[],[]=>true|a::x,b::y=>cG a b&&gD x y|_,_=>false
end
theorem ZwV(a b:List Nat):cG (.str a) (.str b)=(a==b):=rfl
theorem ZtH(a b:List D):cG (.tup a) (.tup b)=gD a b:=rfl
theorem Zt8:gD [] []=true:=rfl
theorem Rk(a b:D)(x y:List D):gD (a::x) (b::y)=(cG a b&&gD x y):=rfl
mutual
noncomputable def below(n:Nat):D->Bool
 | .tup ds=>bJ n ds|.a_ ds=>bJ n ds|.ref k=>k<n|.non=>true| .bl _=>true| .int _=>true| .str _=>true
noncomputable def bJ(n:Nat):List D->Bool
 |[]=>true|d::ds=>below n d&&bJ n ds
end
mutual
noncomputable def same:D->D->Bool
 | .non,.non=>true|.bl a,.bl b=>a==b|.int a,.int b=>a==b|.str a,.str b=>a==b
 | .tup a,.tup b=>Ai a b|.a_ a,.a_ b=>Ai a b|.ref a,.ref b=>a==b|_,_=>false
noncomputable def Ai:List D->List D->Bool
 |[],[]=>true|a::x,b::y=>same a b&&Ai x y|_,_=>false
end
mutual
theorem Zn3:∀{a b:D},same a b=true->a=b
 | .non,b,h=>by cases b<;>first|exact rfl|exact ft h
 | .bl a,b,h=>by cases b<;>first|exact congrArg D.bl (beq_iff_eq.mp h)|exact ft h
 | .int a,b,h=>by cases b<;>first|exact congrArg D.int (beq_iff_eq.mp h)|exact ft h
 | .str a,b,h=>by cases b<;>first|exact congrArg D.str (beq_iff_eq.mp h)|exact ft h
 | .tup a,b,h=>by cases b<;>first|exact congrArg D.tup (Rm h)|exact ft h
 | .a_ a,b,h=>by cases b<;>first|exact congrArg D.a_ (Rm h)|exact ft h
 | .ref a,b,h=>by cases b<;>first|exact congrArg D.ref (beq_iff_eq.mp h)|exact ft h
theorem Rm:∀{x y:List D},Ai x y=true->x=y
 |[],y,h=>by cases y<;>first|exact rfl|exact ft h
 |a::x,y,h=>by
  cases y with
  |nil=>exact ft h|cons b y=>exact have w:=vJ.mp (h:(same a b&&Ai x y)=true);congr (congrArg _ (Zn3 w.1)) (Rm w.2)
end
mutual
theorem Zne:∀(a:D),same a a=true
 | .non=>rfl|.bl a=>beq_self_eq_true a|.int a=>beq_self_eq_true a|.str a=>beq_self_eq_true a
 | .tup a=>Rn a|.a_ a=>Rn a|.ref a=>beq_self_eq_true a
theorem Rn:∀(x:List D),Ai x x=true
 |[]=>rfl|a::x=>vJ.mpr ⟨Zne a,Rn x⟩
end
theorem same_iff{a b:D}:same a b=true↔a=b:=⟨Zn3,λh=>h▸Zne a⟩
noncomputable instance:DecidableEq D:=λa b=>decidable_of_iff (same a b=true) same_iff
noncomputable instance:DecidableEq MO:=λa b=>match a,b with
 | .lst x,.lst y=>if h:x=y then isTrue (by rw[h])else isFalse (by intro e;cases e;exact h rfl)|.dct x,.dct y=>if h:x=y then isTrue (by rw[h])else isFalse (by intro e;cases e;exact h rfl)|.cV x,.cV y=>if h:x=y then isTrue (by rw[h])else isFalse (by intro e;cases e;exact h rfl)|.ins c x,.ins d y=>if h:c=d/\x=y then isTrue (by rw[h.1,h.2])else isFalse (by intro e;cases e;exact h ⟨rfl,rfl⟩)
 | .ins _ _,.lst _=>isFalse (by intro e;cases e)|.ins _ _,.dct _=>isFalse (by intro e;cases e)|.ins _ _,.cV _=>isFalse (by intro e;cases e)|.lst _,.ins _ _=>isFalse (by intro e;cases e)
 | .dct _,.ins _ _=>isFalse (by intro e;cases e)|.cV _,.ins _ _=>isFalse (by intro e;cases e)|.lst _,.dct _=>isFalse (by intro e;cases e)|.lst _,.cV _=>isFalse (by intro e;cases e)
 | .dct _,.lst _=>isFalse (by intro e;cases e)|.dct _,.cV _=>isFalse (by intro e;cases e)|.cV _,.lst _=>isFalse (by intro e;cases e)|.cV _,.dct _=>isFalse (by intro e;cases e)
@[simp] noncomputable abbrev SZ:Nat:=1000000
noncomputable abbrev Zx:=List (Option D)
noncomputable abbrev E3:=Zx->Store->R3 D
noncomputable abbrev cW:=Zx->Store->R3 (List D)
noncomputable abbrev F3:=List D->Store->R3 D
inductive O3 where
 |nx (env:Zx) (M:Store)|rt (d:D) (M:Store)|bk (env:Zx) (M:Store)|ct (env:Zx) (M:Store)|exc (x:X3) (M:Store)|bad
noncomputable abbrev S3:=Zx->Store->O3
@[simp] noncomputable def Za(i:Nat):E3:=λenv M=>match env[i]? with
 |some (Ya d)=>.ok d M|_=>.bad
@[simp] noncomputable def eC(d:D):E3:=λ_ M=>.ok d M
@[simp] noncomputable def e1(op:D->Store->R3 D)(f:E3):E3:=λenv M=>(f env M).bind op
@[simp] noncomputable def e2(op:D->D->Store->R3 D)(f g:E3):E3:=λenv M=>(f env M).bind λa M1=>(g env M1).bind λb M2=>op a b M2
@[simp] noncomputable def Zg:cW:=λ_ M=>.ok [] M
@[simp] noncomputable def Zb(f:E3)(g:cW):cW:=λenv M=>(f env M).bind λa M1=>(g env M1).bind λb M2=>.ok (a::b) M2
@[simp] noncomputable def alloc(o:MO)(M:Store):R3 D:=.ok (.ref M.length) (M++[o])
section
local instance (priority:=100000) AeV (p:Prop):Decidable p:=Yx p
@[simp] noncomputable def jb(g:cW):E3:=λenv M=>(g env M).bind λds M1=>if ds.length<=SZ then .ok (.tup ds) M1 else .bad
end
section
local instance (priority:=100000) AeW (p:Prop):Decidable p:=Yx p
@[simp] noncomputable def b_(g:cW):E3:=λenv M=>(g env M).bind λds M1=>if ds.length<=SZ then alloc (.lst ds) M1 else .bad
end
@[simp] noncomputable def eO(f g:E3):E3:=λenv M=>(f env M).bind λa M1=>match a with
 | .bl true=>g env M1|.bl false=>.ok (.bl false) M1|_=>.bad
@[simp] noncomputable def dz(f g:E3):E3:=λenv M=>(f env M).bind λa M1=>match a with
 | .bl false=>g env M1|.bl true=>.ok (.bl true) M1|_=>.bad
noncomputable def lX(a:D)(M:Store):R3 D:=match a with
 | .bl b=>.ok (.bl (!b)) M|_=>.bad
@[simp] theorem Zxn:∀b,lX (.bl b) M= .ok (.bl (!b)) M:=λ_=>rfl
@[simp] noncomputable def jL(c f g:E3):E3:=λenv M=>(c env M).bind λa M1=>match a with
 | .bl true=>f env M1|.bl false=>g env M1|_=>.bad
@[simp] noncomputable def bf(F:F3)(g:cW):E3:=λenv M=>(g env M).bind λds M1=>F ds M1
section
local instance (priority:=100000) AeX (p:Prop):Decidable p:=Yx p
noncomputable def cJ(a b:D)(M:Store):R3 D:=match a,b with
 | .int i,.int j=>.ok (.int (i+j)) M|.str x,.str y=>if x.length+y.length<=SZ then .ok (.str (x++y)) M else .bad|.tup x,.tup y=>if x.length+y.length<=SZ then .ok (.tup (x++y)) M else .bad|.ref n,.ref m=>match M[n]?,M[m]? with
  |some (.lst x),Ya (.lst y)=>if x.length+y.length<=SZ then alloc (.lst (x++y)) M else .bad|_,_=>.bad
 |_,_=>.bad
@[simp] theorem Aj:∀i j,cJ (.int i) (.int j) M= .ok (.int (i+j)) M:=λ_ _=>rfl
@[simp] theorem ZrE:∀x y,cJ (.str x) (.str y) M=(if x.length+y.length<=SZ then .ok (.str (x++y)) M else .bad):=λ_ _=>rfl
@[simp] theorem Zqd:∀x y,cJ (.tup x) (.tup y) M=(if x.length+y.length<=SZ then .ok (.tup (x++y)) M else .bad):=λ_ _=>rfl
@[simp] theorem Zru:∀n m,cJ (.ref n) (.ref m) M=(match M[n]?,M[m]? with
  |some (.lst x),Ya (.lst y)=>if x.length+y.length<=SZ then alloc (.lst (x++y)) M else .bad|_,_=>.bad):=λ_ _=>rfl
end
noncomputable def oM(a b:D)(M:Store):R3 D:=match a,b with
 | .int i,.int j=>.ok (.int (i-j)) M|_,_=>.bad
@[simp] theorem Ro:∀i j,oM (.int i) (.int j) M= .ok (.int (i-j)) M:=λ_ _=>rfl
section
local instance (priority:=100000) AeY (p:Prop):Decidable p:=Yx p
noncomputable def vR(i j:Int):Bool:=(decide (-(2^64)<i)&&decide (i<2^64))|| (decide (-(2^64)<j)&&decide (j<2^64))
end
section
local instance (priority:=100000) AeZ (p:Prop):Decidable p:=Yx p
noncomputable def Rp(a b:D)(M:Store):R3 D:=match a,b with
 | .int i,.int j=>if vR i j then .ok (.int (i*j)) M else .bad|.str x,.int k=>if x.length*k.toNat<=SZ/\k<1000000/\ -1000000<k then .ok (.str (Y2 k.toNat x).flatten) M else .bad|.ref n,.int k=>match M[n]? with
  |some (.lst x)=>if x.length*k.toNat<=SZ/\k<1000000/\ -1000000<k then alloc (.lst (Y2 k.toNat x).flatten) M else .bad|_=>.bad
 |_,_=>.bad
@[simp] theorem Zwr:∀i j,Rp (.int i) (.int j) M=(if vR i j then .ok (.int (i*j)) M else .bad):=λ_ _=>rfl
@[simp] theorem ZwC:∀x k,Rp (.str x) (.int k) M=(if x.length*k.toNat<=SZ/\k<1000000/\ -1000000<k then .ok (.str (Y2 k.toNat x).flatten) M else .bad):=λ_ _=>rfl
@[simp] theorem Zxp:∀n k,Rp (.ref n) (.int k) M=(match M[n]? with
  |some (.lst x)=>if x.length*k.toNat<=SZ/\k<1000000/\ -1000000<k then alloc (.lst (Y2 k.toNat x).flatten) M else .bad|_=>.bad):=λ_ _=>rfl
end
noncomputable def gW(a b:D)(M:Store):R3 D:=match a,b with
 | .int i,.int j=>if 0<j then .ok (.int (i % j)) M else .bad|_,_=>.bad
@[simp] theorem Zk5:∀i j,gW (.int i) (.int j) M=(if 0<j then .ok (.int (i % j)) M else .bad):=λ_ _=>rfl
section
local instance (priority:=100000) Ae0 (p:Prop):Decidable p:=Yx p
noncomputable def jM(a b:D)(M:Store):R3 D:=match a,b with
 | .int i,.int j=>if 0<j/\j<1073741824 then .ok (.int (i / j)) M else .bad|_,_=>.bad
@[simp] theorem ZjT:∀i j,jM (.int i) (.int j) M=(if 0<j/\j<1073741824 then .ok (.int (i / j)) M else .bad):=λ_ _=>rfl
end
noncomputable def gH(a:D)(M:Store):R3 D:=match a with
 | .int i=>.ok (.int (-i)) M|_=>.bad
@[simp] theorem Ez:∀i,gH (.int i) M= .ok (.int (-i)) M:=λ_=>rfl
noncomputable def jN(a b:D)(M:Store):R3 D:=match a,b with
 | .int i,.int j=>.ok (.bl (decide (i<j))) M|_,_=>.bad
@[simp] theorem Ak:∀i j,jN (.int i) (.int j) M= .ok (.bl (decide (i<j))) M:=λ_ _=>rfl
noncomputable def EY(a b:D)(M:Store):R3 D:=match a,b with
 | .int i,.int j=>.ok (.bl (decide (i<=j))) M|_,_=>.bad
@[simp] theorem ZnL:∀i j,EY (.int i) (.int j) M= .ok (.bl (decide (i<=j))) M:=λ_ _=>rfl
noncomputable def jo(a b:D)(M:Store):R3 D:=match a,b with
 | .int i,.int j=>.ok (.bl (decide (j<i))) M|_,_=>.bad
@[simp] theorem pN:∀i j,jo (.int i) (.int j) M= .ok (.bl (decide (j<i))) M:=λ_ _=>rfl
noncomputable def oN(a b:D)(M:Store):Option Bool:=match a,b with
 | .ref n,.ref m=>match M[n]?,M[m]? with
  |some (.lst x),Ya (.lst y)=>if x.all (cT DEEP)&&y.all (cT DEEP)then Ya (gD x y)else Yj|_,_=>Yj
 | .int i,.int j=>Ya (decide (i=j))|.str x,.str y=>Ya (decide (x=y))|.bl x,.bl y=>Ya (decide (x=y))|.tup x,.tup y=>if x.all (cT DEEP)&&y.all (cT DEEP)then Ya (gD x y)else Yj
 |_,_=>Yj
@[simp] theorem Al:∀n m,oN (.ref n) (.ref m) M=(match M[n]?,M[m]? with
  |some (.lst x),Ya (.lst y)=>if x.all (cT DEEP)&&y.all (cT DEEP)then Ya (gD x y)else Yj|_,_=>Yj):=λ_ _=>rfl
@[simp] theorem rJ:∀i j,oN (.int i) (.int j) M=Ya (decide (i=j)):=λ_ _=>rfl
@[simp] theorem vU:∀x y,oN (.str x) (.str y) M=Ya (decide (x=y)):=λ_ _=>rfl
@[simp] theorem J0:∀x y,oN (.bl x) (.bl y) M=Ya (decide (x=y)):=λ_ _=>rfl
@[simp] theorem J1:∀x y,oN (.tup x) (.tup y) M=(if x.all (cT DEEP)&&y.all (cT DEEP)then Ya (gD x y)else Yj):=λ_ _=>rfl
@[simp] noncomputable def aN(a b:D)(M:Store):R3 D:=match oN a b M with
 |some r=>.ok (.bl r) M|none=>.bad
@[simp] noncomputable def iI(a b:D)(M:Store):R3 D:=match oN a b M with
 |some r=>.ok (.bl (!r)) M|none=>.bad
noncomputable def Am(a b:D)(M:Store):R3 D:=match b with
 | .non=>.ok (.bl (decide (a= .non))) M|_=>.bad
@[simp] theorem ZxK{a:D}:Am a (.non) M= .ok (.bl (decide (a= .non))) M:=rfl
noncomputable def Rq(a b:D)(M:Store):R3 D:=match b with
 | .non=>.ok (.bl (!decide (a= .non))) M|_=>.bad
@[simp] theorem Zvn{a:D}:Rq a (.non) M= .ok (.bl (!decide (a= .non))) M:=rfl
noncomputable def b8:D->Bool
 | .non=>true| .bl _=>true| .int _=>true| .str _=>true|_=>false
noncomputable def Rr(a:D)(y:List Nat):Option Bool:=match a with
 | .str [c]=>Ya (decide (c∈y))|_=>Yj
@[simp] theorem Zyd{y:List Nat}:∀c,Rr (.str [c]) y=Ya (decide (c∈y)):=λ_=>rfl
noncomputable def inD(a b:D):Option Bool:=match b with
 | .str y=>Rr a y|.tup ys=>if b8 a&&ys.all b8 then Ya (ys.any λy=>cG y a)else Yj|_=>Yj
@[simp] theorem ZxR{a:D}:∀y,inD a (.str y)=Rr a y:=λ_=>rfl
@[simp] theorem Zvo{a:D}:∀ys,inD a (.tup ys)=(if b8 a&&ys.all b8 then Ya (ys.any λy=>cG y a)else Yj):=λ_=>rfl
@[simp] noncomputable def kj(a b:D)(M:Store):R3 D:=match inD a b with
 |some r=>.ok (.bl r) M|none=>.bad
noncomputable def m8(n:Nat)(i:Int):Option Nat:=if 0<=i then(if i<n then Ya i.toNat else Yj)else if -(n:Int)<=i then Ya (i+n).toNat else Yj
noncomputable def dW{α:Type}(xs:List α)(i:Int):Option α:=(m8 xs.length i).bind λj=>xs[j]?
noncomputable def Ru:D->Option gq
 | .int i=>Ya (.inl i)|.str x=>Ya (.inr x)|_=>Yj
noncomputable def E_:List (gq×D)->gq->Option D
 |[],_=>Yj|(k,v)::r,x=>if k=x then Ya v else E_ r x
section
local instance (priority:=100000) Ae1 (p:Prop):Decidable p:=Yx p
noncomputable def Zz(a b:D)(M:Store):R3 D:=match a,b with
 | .tup ds,.int i=>match dW ds i with
  |some d=>.ok d M|none=>.bad
 | .a_ ds,.int i=>match dW ds i with
  |some d=>.ok d M|none=>.bad
 | .str x,.int i=>match dW x i with
  |some c=>if x.length<=SZ then .ok (.str [c]) M else .bad|none=>.bad
 | .ref n,.int i=>match M[n]? with
  |some (.lst ds)=>match dW ds i with
   |some d=>.ok d M|none=>.bad
  |_=>.bad
 |_,_=>.bad
@[simp] theorem Rv:∀ds i,Zz (.tup ds) (.int i) M=(match dW ds i with
  |some d=>.ok d M|none=>.bad):=λ_ _=>rfl
@[simp] theorem Rx:∀ds i,Zz (.a_ ds) (.int i) M=(match dW ds i with
  |some d=>.ok d M|none=>.bad):=λ_ _=>rfl
@[simp] theorem Ry:∀x i,Zz (.str x) (.int i) M=(match dW x i with
  |some c=>if x.length<=SZ then .ok (.str [c]) M else .bad|none=>.bad):=λ_ _=>rfl
@[simp] theorem Rz:∀n i,Zz (.ref n) (.int i) M=(match M[n]? with
  |some (.lst ds)=>match dW ds i with
   |some d=>.ok d M|none=>.bad
  |_=>.bad):=λ_ _=>rfl
end
noncomputable def Ztt:Option MO->Option (List (gq×D))
 |some (.dct kvs)=>Ya kvs|some (.cV kvs)=>Ya kvs|_=>Yj
noncomputable def Zvz(a b:D)(M:Store):R3 D:=match a with
 | .ref n=>match Ztt M[n]?,Ru b with
  |some kvs,Ya x=>match E_ kvs x with
   |some d=>.ok d M|none=>.bad
  |_,_=>.bad
 |_=>.bad
@[simp] theorem ZvR{b:D}:∀n,Zvz (.ref n) b M=(match Ztt M[n]?,Ru b with
  |some kvs,Ya x=>match E_ kvs x with
   |some d=>.ok d M|none=>.bad
  |_,_=>.bad):=λ_=>rfl
noncomputable def aA(n d:Nat):Option Int->Nat
 |none=>d|some v=>if v<0 then(v+(n:Int)).toNat else ir v.toNat n
noncomputable def cutD{α:Type}(xs:List α)(lo hi:Option Int):List α:=(xs.drop (aA xs.length 0 lo)).take (aA xs.length xs.length hi-aA xs.length 0 lo)
noncomputable abbrev yc:=Zx->Store->R3 (Option Int)
@[simp] noncomputable def gJ:yc:=λ_ M=>.ok Yj M
@[simp] noncomputable def bQ(f:E3):yc:=λenv M=>(f env M).bind λa M1=>match a with
 | .int i=>.ok (Ya i) M1|_=>.bad
section
local instance (priority:=100000) Ae2 (p:Prop):Decidable p:=Yx p
noncomputable def Ao(a:D)(lo hi:Option Int)(M:Store):R3 D:=match a with
 | .tup ds=>.ok (.tup (cutD ds lo hi)) M|.a_ ds=>alloc (.lst (cutD ds lo hi)) M|.str x=>if x.length<=SZ then .ok (.str (cutD x lo hi)) M else .bad|.ref n=>match M[n]? with
  |some (.lst ds)=>alloc (.lst (cutD ds lo hi)) M|_=>.bad
 |_=>.bad
@[simp] theorem Fd:∀ds,Ao (.tup ds) lo hi M= .ok (.tup (cutD ds lo hi)) M:=λ_=>rfl
@[simp] theorem Fe:∀ds,Ao (.a_ ds) lo hi M=alloc (.lst (cutD ds lo hi)) M:=λ_=>rfl
@[simp] theorem Ff:∀x,Ao (.str x) lo hi M=(if x.length<=SZ then .ok (.str (cutD x lo hi)) M else .bad):=λ_=>rfl
@[simp] theorem Aq:∀n,Ao (.ref n) lo hi M=(match M[n]? with
  |some (.lst ds)=>alloc (.lst (cutD ds lo hi)) M|_=>.bad):=λ_=>rfl
end
@[simp] noncomputable def dD(f:E3)(lo hi:yc):E3:=λenv M=>(f env M).bind λa M1=>(lo env M1).bind λl M2=>(hi env M2).bind λh M3=>Ao a l h M3
section
local instance (priority:=100000) Ae3 (p:Prop):Decidable p:=Yx p
noncomputable def bx(ds:List D)(M:Store):R3 D:=match ds with
 |[.tup x]=>.ok (.int x.length) M|[.a_ x]=>.ok (.int x.length) M|[.str x]=>if x.length<=SZ then .ok (.int x.length) M else .bad|[.ref n]=>match M[n]? with
  |some (.lst x)=>.ok (.int x.length) M|_=>.bad
 |_=>.bad
@[simp] theorem Fg:∀x,bx ([.tup x]) M= .ok (.int x.length) M:=λ_=>rfl
@[simp] theorem Fi:∀x,bx ([.a_ x]) M= .ok (.int x.length) M:=λ_=>rfl
@[simp] theorem Fj:∀x,bx ([.str x]) M=(if x.length<=SZ then .ok (.int x.length) M else .bad):=λ_=>rfl
@[simp] theorem uf:∀n,bx ([.ref n]) M=(match M[n]? with
  |some (.lst x)=>.ok (.int x.length) M|_=>.bad):=λ_=>rfl
end
noncomputable def gY(ds:List D)(M:Store):R3 D:=match ds with
 |[.tup x]=>.ok (.tup x) M|[.a_ x]=>.ok (.tup x) M|[.ref n]=>match M[n]? with
  |some (.lst x)=>.ok (.tup x) M|_=>.bad
 |_=>.bad
@[simp] theorem Zjy:∀x,gY ([.tup x]) M= .ok (.tup x) M:=λ_=>rfl
@[simp] theorem Zjr:∀x,gY ([.a_ x]) M= .ok (.tup x) M:=λ_=>rfl
@[simp] theorem Ar:∀n,gY ([.ref n]) M=(match M[n]? with
  |some (.lst x)=>.ok (.tup x) M|_=>.bad):=λ_=>rfl
inductive m7 where
 |int|bool|str|list|tuple
 deriving DecidableEq
noncomputable def ju(T:m7)(d:D)(M:Store):Option Bool:=match d with
 | .non=>Ya false|.bl _=>Ya (T== .bool|| T== .int)|.int _=>Ya (T== .int)|.str _=>Ya (T== .str)
 | .tup _=>Ya (T== .tuple)|.a_ _=>Yj|.ref n=>match M[n]? with
  |some (.lst _)=>Ya (T== .list)|some (.dct _)=>Ya false|some (.cV _)=>Yj|some (.ins _ _)=>Yj
  |none=>Yj
@[simp] theorem Znz:ju T (.non) M=Ya false:=rfl
@[simp] theorem Zoe:∀w0,ju T (.bl w0) M=Ya (T== .bool|| T== .int):=λ_=>rfl
@[simp] theorem Znf:∀w0,ju T (.int w0) M=Ya (T== .int):=λ_=>rfl
@[simp] theorem ZnQ:∀w0,ju T (.str w0) M=Ya (T== .str):=λ_=>rfl
@[simp] theorem Znl:∀w0,ju T (.tup w0) M=Ya (T== .tuple):=λ_=>rfl
@[simp] theorem Zn7:∀w0,ju T (.a_ w0) M=Yj:=λ_=>rfl
@[simp] theorem Znt:∀n,ju T (.ref n) M=(match M[n]? with
  |some (.lst _)=>Ya (T== .list)|some (.dct _)=>Ya false|some (.cV _)=>Yj|some (.ins _ _)=>Yj
  |none=>Yj):=λ_=>rfl
@[simp] noncomputable def m9(T:m7)(d:D)(M:Store):R3 D:=match ju T d M with
 |some b=>.ok (.bl b) M|none=>.bad
noncomputable def Av:D->Bool
 | .bl _=>true|_=>false
noncomputable def yd:D->Bool
 | .bl b=>b|_=>false
noncomputable def allB(l:List D):Option Bool:=if l.all Av then Ya (l.all yd)else Yj
noncomputable def rK(ds:List D)(M:Store):R3 D:=match ds with
 | [.ref n]=>match M[n]? with
  |some (.lst x)=>match allB x with
   |some b=>.ok (.bl b) M|none=>.bad
  |_=>.bad
 |_=>.bad
@[simp] theorem Aw:∀n,rK ([.ref n]) M=(match M[n]? with
  |some (.lst x)=>match allB x with
   |some b=>.ok (.bl b) M|none=>.bad
  |_=>.bad):=λ_=>rfl
noncomputable def rN(o:D)(ds:List D)(M:Store):R3 D:=match o,ds with
 | .str x,[.str y]=>if x.length<=SZ/\y.length<=SZ then .ok (.bl (y.isPrefixOf x)) M else .bad|_,_=>.bad
@[simp] theorem Fl:∀x y,rN (.str x) ([.str y]) M=(if x.length<=SZ/\y.length<=SZ then .ok (.bl (y.isPrefixOf x)) M else .bad):=λ_ _=>rfl
section
local instance (priority:=100000) AeR (p:Prop):Decidable p:=Yx p
noncomputable def d9(o:D)(ds:List D)(M:Store):R3 D:=match o,ds with
 | .ref n,[d]=>match M[n]? with
  |some (.lst x)=>if x.length<SZ then .ok .non (M.set n (.lst (x++[d])))else .bad|_=>.bad
 |_,_=>.bad
@[simp] theorem RB:∀n d,d9 (.ref n) ([d]) M=(match M[n]? with
  |some (.lst x)=>if x.length<SZ then .ok .non (M.set n (.lst (x++[d])))else .bad|_=>.bad):=λ_ _=>rfl
end
section
local instance (priority:=100000) Ae4 (p:Prop):Decidable p:=Yx p
noncomputable def Ax(o:D)(ds:List D)(M:Store):R3 D:=match o,ds with
 | .ref n,[.int i]=>match M[n]? with
  | some (.lst x)=>if -1000000<=i/\i<=1000000 then match m8 x.length i with
   |some k=>match x[k]? with
    |some d=>.ok d (M.set n (.lst (x.eraseIdx k)))|none=>.bad
   |none=>.bad
   else .bad
  |_=>.bad
 | .ref n,[]=>match M[n]? with
  |some (.lst x)=>match x[x.length-1]? with
   |some d=>.ok d (M.set n (.lst x.dropLast))|none=>.bad
  |_=>.bad
 |_,_=>.bad
@[simp] theorem ZnC:∀n i,Ax (.ref n) ([.int i]) M=(match M[n]? with
  | some (.lst x)=>if -1000000<=i/\i<=1000000 then match m8 x.length i with
   |some k=>match x[k]? with
    |some d=>.ok d (M.set n (.lst (x.eraseIdx k)))|none=>.bad
   |none=>.bad
   else .bad
  |_=>.bad):=λ_ _=>rfl
@[simp] theorem RD:∀n,Ax (.ref n) ([]) M=(match M[n]? with
  |some (.lst x)=>match x[x.length-1]? with
   |some d=>.ok d (M.set n (.lst x.dropLast))|none=>.bad
  |_=>.bad):=λ_=>rfl
end
noncomputable def iw(a:D)(_:Store):Bool:=match a with
 | .str _=>true|_=>false
@[simp] theorem ZvE{w_:Store}:∀w0,iw (.str w0) w_=true:=λ_=>rfl
noncomputable def dF(a:D)(M:Store):Bool:=match a with
 | .ref n=>match M[n]? with
  |some (.lst _)=>true|_=>false
 |_=>false
@[simp] theorem J2:∀n,dF (.ref n) M=(match M[n]? with
  |some (.lst _)=>true|_=>false):=λ_=>rfl
@[simp] noncomputable def bB(ty:D->Store->Bool)(m:D->List D->Store->R3 D)(o:E3)(g:cW):E3:=λenv M=>(o env M).bind λa M1=>if ty a M1 then(g env M1).bind λds M2=>m a ds M2 else .bad
@[simp] noncomputable def aG(b:List D->Store->R3 D)(g:cW):E3:=λenv M=>(g env M).bind λds M1=>b ds M1
noncomputable def putD(k:gq)(v:D)(kvs:List (gq×D)):List (gq×D):=if(kvs.any λp=>decide (p.1=k))=true then kvs.map (λp=>if p.1=k then(p.1,v)else p)else kvs++[(k,v)]
noncomputable def dictOf(l:List (gq×D)):List (gq×D):=l.foldl (λacc p=>putD p.1 p.2 acc) []
@[simp] noncomputable def e3(op:D->D->D->Store->R3 D)(f g h:E3):E3:=λenv M=>(f env M).bind λa M1=>(g env M1).bind λb M2=>(h env M2).bind λc M3=>op a b c M3
noncomputable def Zqx:List D->Option (List (gq×D))
 |[]=>Ya []|.tup [a,b]::r=>match Ru a with
  |some k=>(Zqx r).map λl=>(k,b)::l|none=>Yj
 |_::_=>Yj
noncomputable def Fo(ds:List D)(M:Store):R3 D:=match ds with
 |[.int i]=>.ok (.int i) M|[.bl b]=>.ok (.int (if b then 1 else 0)) M|_=>.bad
@[simp] theorem ZxO:∀i,Fo ([.int i]) M= .ok (.int i) M:=λ_=>rfl
@[simp] theorem ZxG:∀b,Fo ([.bl b]) M= .ok (.int (if b then 1 else 0)) M:=λ_=>rfl
noncomputable def kI:List D->Option (List Int)
 |[]=>Ya []|.int i::r=>(kI r).map (i:: ·)|_::_=>Yj
noncomputable def aY:S3:=λenv M=>.nx env M
noncomputable def RG:S3:=λ_ _=>.bad
noncomputable def Zw(f g:S3):S3:=λenv M=>match f env M with
 | .nx env' M'=>g env' M'|o=>o
noncomputable def aK(c:E3)(f g:S3):S3:=λenv M=>match c env M with
 | .ok (.bl true) M1=>f env M1|.ok (.bl false) M1=>g env M1|.exc x M1=>.exc x M1|_=>.bad
noncomputable def aX(f:E3):S3:=λenv M=>match f env M with
 | .ok d M1=>.rt d M1|.exc x M1=>.exc x M1|.bad=>.bad
noncomputable def bV(f:E3):S3:=λenv M=>match f env M with
 | .ok _ M1=>.nx env M1|.exc x M1=>.exc x M1|.bad=>.bad
noncomputable def aJ(i:Nat)(f:E3):S3:=λenv M=>match f env M with
 | .ok d M1=>.nx (env.set i (Ya d)) M1|.exc x M1=>.exc x M1|.bad=>.bad
noncomputable abbrev G3:=D->Zx->Option Zx
@[simp] noncomputable def dN(i:Nat):G3:=λd env=>Ya (env.set i (Ya d))
noncomputable def bindAll:List Nat->List D->Zx->Option Zx
 |[],[],env=>Ya env|i::is,d::ds,env=>bindAll is ds (env.set i (Ya d))|_,_,_=>Yj
@[simp] theorem J3:∀env,bindAll ([]) ([]) (env)=Ya env:=λ_=>rfl
@[simp] theorem J4:∀i is d ds env,bindAll (i::is) (d::ds) (env)=bindAll is ds (env.set i (Ya d)):=λ_ _ _ _ _=>rfl
@[simp] noncomputable def jc(is:List Nat):G3:=λd env=>match d with
 | .tup ds=>bindAll is ds env|_=>Yj
structure gU where
 items:List D
 lock:Option Nat
noncomputable abbrev I3:=Zx->Store->R3 gU
section
local instance (priority:=100000) AeS (p:Prop):Decidable p:=Yx p
@[simp] noncomputable def eQ(f:E3):I3:=λenv M=>(f env M).bind λa M1=>match a with
 | .tup ds=>.ok ⟨ds,Yj⟩ M1|.a_ ds=>.ok ⟨ds,Yj⟩ M1|.str x=>if x.length<=SZ then .ok ⟨x.map λc=>.str [c],Yj⟩ M1 else .bad|.ref n=>match M1[n]? with
  |some (.lst ds)=>.ok ⟨ds,Ya n⟩ M1|_=>.bad
 |_=>.bad
end
noncomputable def Fp(lo:Int)(n:Nat):List D:=(iV n).map λ(k:Nat)=>D.int (lo+(k:Int))
section
local instance (priority:=100000) AeT (p:Prop):Decidable p:=Yx p
@[simp] noncomputable def RJ(f:E3):I3:=λenv M=>(f env M).bind λa M1=>match a with
 | .int j=>if j<=1000000/\ -1000000<=j then .ok ⟨Fp 0 j.toNat,Yj⟩ M1 else .bad|_=>.bad
end
noncomputable def locked(it:gU)(M:Store):Bool:=match it.lock with
 |none=>true|some n=>decide (M[n]?=Ya (.lst it.items))
noncomputable def cX(it:gU)(g:G3)(body:S3):List D->Zx->Store->O3
 |[],env,M=>if locked it M then .nx env M else .bad|d::ds,env,M=>if locked it M then match g d env with
  |none=>.bad|some dm=>match body dm M with
   | .nx e M'=>cX it g body ds e M'|.ct e M'=>cX it g body ds e M'|.bk e M'=>.nx e M'|o=>o
  else .bad
theorem ug{g:G3}{body:S3}:cX it g body [] env M=if locked it M then .nx env M else .bad:=rfl
theorem uh{g:G3}{body:S3}{d:D}{ds:List D}:cX it g body (d::ds) env M=if locked it M then match g d env with
  |none=>.bad|some dm=>match body dm M with
   | .nx e M'=>cX it g body ds e M'|.ct e M'=>cX it g body ds e M'|.bk e M'=>.nx e M'|o=>o
  else .bad:=rfl
noncomputable def ul(i:I3)(g:G3)(body:S3):S3:=λenv M=>match i env M with
 | .ok it M1=>cX it g body it.items env M1|.exc x M1=>.exc x M1|.bad=>.bad
noncomputable def jw(c:E3)(body:S3):Nat->Zx->Store->O3
 |0,_,_=>.bad|n+1,env,M=>match c env M with
  | .ok (.bl true) M1=>match body env M1 with
   | .nx e M'=>jw c body n e M'|.ct e M'=>jw c body n e M'|.bk e M'=>.nx e M'|o=>o
  | .ok (.bl false) M1=>.nx env M1|.exc x M1=>.exc x M1|_=>.bad
theorem RK{c:E3}{body:S3}{n:Nat}:jw c body (n+1) env M=match c env M with
  | .ok (.bl true) M1=>match body env M1 with
   | .nx e M'=>jw c body n e M'|.ct e M'=>jw c body n e M'|.bk e M'=>.nx e M'|o=>o
  | .ok (.bl false) M1=>.nx env M1|.exc x M1=>.exc x M1|_=>.bad:=rfl
noncomputable def ye(c:E3)(body:S3):S3:=jw c body 1000000
noncomputable def um:List E3->Zx->Store->R3 Bool
 |[],_,M=>.ok true M|c::cs,env,M=>(c env M).bind λa M1=>match a with
  | .bl true=>um cs env M1|.bl false=>.ok false M1|_=>.bad
theorem J5:um [] env M= .ok true M:=rfl
theorem Fq{c:E3}{cs:List E3}:um (c::cs) env M=(c env M).bind λa M1=>match a with
  | .bl true=>um cs env M1|.bl false=>.ok false M1|_=>.bad:=rfl
section
local instance (priority:=100000) Acq (p:Prop):Decidable p:=Yx p
noncomputable def iJ(it:gU)(g:G3)(ifs:List E3)(elt:E3)(n:Nat):List D->Zx->Store->R3 D
 |[],_,M=>if locked it M then .ok (.ref n) M else .bad|d::ds,env,M=>if locked it M then match g d env with
  |none=>.bad|some dm=>(um ifs dm M).bind λb M1=>if b then(elt dm M1).bind λe M2=>match M2[n]? with
    |some (.lst x)=>if x.length<SZ then iJ it g ifs elt n ds dm (M2.set n (.lst (x++[e])))else .bad|_=>.bad
   else iJ it g ifs elt n ds dm M1
  else .bad
theorem Zoc{g:G3}{ifs:List E3}{elt:E3}{n:Nat}:iJ it g ifs elt n [] env M=if locked it M then .ok (.ref n) M else .bad:=rfl
theorem RL{g:G3}{ifs:List E3}{elt:E3}{n:Nat}{d:D}{ds:List D}:iJ it g ifs elt n (d::ds) env M=if locked it M then match g d env with
  |none=>.bad|some dm=>(um ifs dm M).bind λb M1=>if b then(elt dm M1).bind λe M2=>match M2[n]? with
    |some (.lst x)=>if x.length<SZ then iJ it g ifs elt n ds dm (M2.set n (.lst (x++[e])))else .bad|_=>.bad
   else iJ it g ifs elt n ds dm M1
  else .bad:=rfl
end
noncomputable def jx(i:I3)(own:Nat)(g:G3)(ifs:List E3)(elt:E3):E3:=λenv M=>(i env M).bind λit M1=>iJ it g ifs elt M1.length it.items (env++Y2 own Yj) (M1++[.lst []])
noncomputable def vV(n:Nat):MO->Bool
 | .lst xs=>bJ n xs|.dct kvs=>bJ n (kvs.map (·.2))|.cV kvs=>bJ n (kvs.map (·.2))|.ins _ fs=>bJ n (fs.map (·.2))
noncomputable def dG(M:Store)(d:D)(M':Store):R3 D:=if below M.length d&&(decide (M'.take M.length=M)|| (M'.take M.length).all (vV M.length))then .ok d (M'.take M.length)else .ok d M'
noncomputable def bL(ps n:Nat)(body:S3):F3:=λds M=>if ds.length=ps then match body (ds.map Ya++Y2 (n-ps) Yj) M with
  | .nx _ M'=>dG M .non M'|.rt d M'=>dG M d M'|.exc x M'=>.exc x M'|_=>.bad
 else .bad
end
end _L3
namespace _L3
variable{i n:Nat}
theorem ZpP{it:gU}{elt:E3}{R:D->D->Prop}{env0:Zx}:∀(ds:List D) (acc:List D) (env:Zx) (M:Store),(∀d,env.set i (Ya d)=env0.set i (Ya d)) ->
  (∀d∈ds,∀x,∃e,elt (env0.set i (Ya d)) (M.set n (.lst x))= .ok e (M.set n (.lst x))/\R d e)->(∀x,locked it (M.set n (.lst x))=true)->M[n]?=Ya (.lst acc)->acc.length+ds.length<=SZ ->
  ∃es,es.length=ds.length/\(∀(j:Nat) d e,ds[j]?=Ya d->es[j]?=Ya e->R d e)/\iJ it (dN i) [] elt n ds env M= .ok (.ref n) (M.set n (.lst (acc++es))):=by
 intro ds
 induction ds with
 | nil=>
  intro acc env M _ _ hl hM _;have e:M.set n (.lst acc)=M:=by
   apply zR;intro j;by_cases hj:j=n
   .subst hj;rw[jX (Yh.mp hM).1,hM]
   .rw[Yz (bT hj)]
  have hl':=hl acc;rw[e]at hl';exact⟨[],rfl,λj d e h=>by simp at h,by simp only[Zoc,RL,hl',if_true,iD,e]⟩
 | cons d ds ih=>
  intro acc env M he hf hl hM hz;have hn:n<M.length:=(Yh.mp hM).1;have e:M.set n (.lst acc)=M:=by
   apply zR;intro j;by_cases hj:j=n
   .subst hj;rw[jX hn,hM]
   .rw[Yz (bT hj)]
  have hl':=hl acc;rw[e]at hl';obtain⟨v,hf',hR⟩:=hf d Yg acc;rw[e]at hf';have hz':acc.length<SZ:=by simp at hz ⊢;exact lB 1 0xf42405b01f42405ba1c0c01 T1 hz
  obtain⟨es,le,re,h⟩:=ih (acc++[v]) (env0.set i (Ya d)) (M.set n (.lst (acc++[v]))) (λd'=>by rw[DP]) (λd' hd' x=>by rw[DP];exact hf d' (Ye _ hd') x) (λx=>by rw[DP];exact hl x) (by rw[jX hn]) (by simp at hz ⊢;exact lB 1 0xf42405b1a0cc0f42405ba1c0c01 T1 hz);refine⟨v::es,by simp[le],λj d' e' h1 h2=>?_,?_⟩
  .cases j with
   |zero=>simp at h1 h2;subst h1 h2;exact hR|succ j=>exact re j d' e' (by simpa using h1) (by simpa using h2)
  .simp only[RL,hl',if_true,dN,he d,J5,Fq,R3.Ab4,hf',hM,hz'];rw[h,DP];simp
variable{env env':Zx}{g:S3}{M M':Store}
theorem Ze{f:S3}(h:f env M= .nx env' M'):Zw f g env M=g env' M':=by rw[Zw,h]
variable{d:D}
theorem iK{f:S3}(h:f env M= .rt d M'):Zw f g env M= .rt d M':=by rw[Zw,h]
theorem cP{c:E3}{f:S3}(h:c env M= .ok (.bl true) M'):aK c f g env M=f env M':=by rw[aK,h]
theorem pO{c:E3}{f:S3}(h:c env M= .ok (.bl false) M'):aK c f g env M=g env M':=by rw[aK,h]
variable{f:E3}
theorem cF(h:f env M= .ok d M'):aX f env M= .rt d M':=by rw[aX,h]
theorem Zr(h:f env M= .ok d M')(he:env.set i (Ya d)=env':=by first|(dsimp only[zP,zQ]<;>exact rfl)|exact rfl):aJ i f env M= .nx env' M':=by rw[aJ,h];simp only[he]
theorem Zq{c:E3}{f:S3}(h:c env M= .ok (.bl false) M'):aK c f aY env M= .nx env M':=by rw[aK,h];rfl
theorem Ft(h:f env M= .ok d M'):bV f env M= .nx env M':=by rw[bV,h]
theorem Fv{i:I3}{g:G3}{u:S3}{it:gU}(h:i env M= .ok it M'):ul i g u env M=cX it g u it.items env M':=by rw[ul,h]
theorem Zqn{i:I3}{own:Nat}{g:G3}{ts:List E3}{it:gU}(h:i env M= .ok it M'):jx i own g ts f env M=iJ it g ts f M'.length it.items (env++Y2 own Yj) (M'++[.lst []]):=by rw[jx,h];rfl
variable{ds:List D}{body:S3}
theorem kJ{ps:Nat}(h:body env M= .rt d M')(hl:autoParam (ds.length=ps) qA)(he:autoParam (ds.map Ya++Y2 (n-ps) Yj=env) qA):bL ps n body ds M=dG M d M':=by rw[bL,if_pos hl,he,h]
theorem Fw{ps:Nat}(h:body env M= .nx env' M')(hl:autoParam (ds.length=ps) qA)(he:autoParam (ds.map Ya++Y2 (n-ps) Yj=env) qA):bL ps n body ds M=dG M .non M':=by rw[bL,if_pos hl,he,h]
theorem Zq9{G:Store}(h:below M.length d=true):dG M d (M++G)= .ok d M:=by simp[dG,h]
theorem ZjD(h:below M.length d=true):dG M d M= .ok d M:=by simp[dG,h]
variable{α:Type}
theorem Zy(M:List α)(x:α)(xs:List α):(M++x::xs)[M.length]?=Ya x:=by simp
theorem yg(M xs:List α)(k:Nat):(M++xs)[M.length+k]?=xs[k]?:=by rw[xr (lU _ _)];congr 1;exact gn (lC 1 2199589555233 T1 (j4 (lU _ _))) (lC 1 2267788938241 T1 (jH _ _))
theorem J6(M xs:List α)(k:Nat)(o:α):(M++xs).set (M.length+k) o=M++xs.set k o:=by rw[List.set_append_right _ _ (lU _ _)];congr 2;exact gn (lC 1 2199589555233 T1 (j4 (lU _ _))) (lC 1 2267788938241 T1 (jH _ _))
theorem Zv{M:List α}{o:α}(h:M[n]?=Ya o)(xs:List α):(M++xs)[n]?=Ya o:=by rw[Y3 (Yh.mp h).1,h]
theorem iy(xs:List α)(k:Nat):dW xs (k:Int)=xs[k]?:=by
 unfold dW m8;rw[if_pos (Eb k)];by_cases h:k<xs.length
 .rw[if_pos (Ji.2 h)];simp
 .rw[if_neg (by exactλz=>iN [_,_] [] 2 6667149772945 T1 z h)];simp at h ⊢;exact h
@[simp] theorem ZvT(xs:List α)(k:Nat):dW xs (k:Int)=xs[k]?:=iy xs k
@[simp] theorem ZwX(xs:List α)(n:Nat):dW xs (no_index (Eh n:Int))=xs[(Eh n:Nat)]?:=iy xs n
@[simp] theorem Zv1(xs:List α):dW xs (-1)=xs.getLast?:=by
 unfold dW m8;rw[if_neg (by decide),List.getLast?_eq_getElem?];by_cases h:0<xs.length
 .rw[if_pos (by exact iN [_] [] 1 725993655825 T1 h)];simp only[Ww];congr 1;exact gn (iN [_,_,_] [] 2 0x200a2c10118a9c08a1 T1 (zZ (iN [_] [] 1 595337940497 T1 h)) (jH _ _)) (iN [_,_,_] [] 2 0x1200a2c211808a9c81 T1 (Jf _) (j4 (lA 1 10489361 T1 h)))
 .have:xs=[]:=by simpa using h
  subst this;rfl
theorem Zna(n k:Nat):m8 n (k:Int)=if k<n then Ya k else Yj:=by
 unfold m8;rw[if_pos (Eb k)];by_cases h:k<n
 .rw[if_pos (Ji.2 h),if_pos h];simp
 .rw[if_neg (by exactλz=>iN [_,_] [] 2 6667149772945 T1 z h),if_neg h]
@[simp] theorem Zwi(n k:Nat):m8 n (k:Int)=if k<n then Ya k else Yj:=Zna n k
@[simp] theorem ZxN(m n:Nat):m8 m (no_index (Eh n:Int))=if(Eh n:Nat)<m then Ya (Eh n:Nat)else Yj:=Zna m n
theorem getD_last(xs:List α)(x:α):dW (xs++[x]) (-1)=Ya x:=by
 unfold dW m8;rw[if_neg (by decide),if_pos (by simp;exact iN [_] [] 0 10521768 T1)];have:(-1+((xs++[x]).length:Int)).toNat=xs.length:=by simp;exact gn (iN [_,_] [] 1 4514701222086817 T1 (zZ (iN [_] [] 0 43097169128 T1))) (iN [_,_] [] 1 4505291991981185 T1 (Jf _))
 simp only[Ww,this];simp
theorem ZqK(xs:List α):cutD xs Yj (Ya (-1))=xs.dropLast:=by unfold cutD aA;simp only[DN];rw[if_pos (by decide),Ox];congr 1;omega
theorem Zs8(xs:List α)(k:Nat)(h:xs.length<=k):cutD xs Yj (Ya (k:Int))=xs:=by unfold cutD aA;simp only[DN];rw[if_neg (by exactλz=>iN [_] [] 1 7211153 T1 z),zK (by simp;omega)]
inductive Row where
 |put (a:Nat) (n:Int)|add (a b c:Nat)|sub (a b c:Nat)|more (a b c:Nat)|get (a b:Nat)|set (a b:Nat)|jump (k:Nat)|when (a k:Nat)|tell (a:Nat)|halt
 deriving Inhabited
noncomputable def Row.ok(many:Nat):Row->Prop
 | .put a _=>a<8|.add a b c=>a<8/\b<8/\c<8|.sub a b c=>a<8/\b<8/\c<8|.more a b c=>a<8/\b<8/\c<8
 | .get a b=>a<8/\b<8|.set a b=>a<8/\b<8|.jump k=>k<many|.when a k=>a<8/\k<many
 | .tell a=>a<8|.halt=>True
noncomputable def Row.tells(bs:List Int):Row->Option Int
 | .tell a=>bs[a]?|_=>Yj
noncomputable def Row.qX:Row->Bool
 | .halt=>true|_=>false
variable{a:Nat}
@[simp] theorem ZvZ{n:Int}{bs:List Int}:(Row.put a n).tells bs=Yj:=rfl
@[simp] theorem ZvI{n:Int}:(Row.put a n).qX=false:=rfl
variable{c:Nat}
@[simp] theorem ZvW{b:Nat}{bs:List Int}:(Row.add a b c).tells bs=Yj:=rfl
@[simp] theorem Zvs{b:Nat}:(Row.add a b c).qX=false:=rfl
@[simp] theorem Zv3{b:Nat}{bs:List Int}:(Row.sub a b c).tells bs=Yj:=rfl
@[simp] theorem ZvC{b:Nat}:(Row.sub a b c).qX=false:=rfl
@[simp] theorem ZtS{b:Nat}{bs:List Int}:(Row.more a b c).tells bs=Yj:=rfl
@[simp] theorem Ztm{b:Nat}:(Row.more a b c).qX=false:=rfl
@[simp] theorem Zv0{b:Nat}{bs:List Int}:(Row.get a b).tells bs=Yj:=rfl
@[simp] theorem Zt4{b:Nat}:(Row.get a b).qX=false:=rfl
@[simp] theorem ZvU{b:Nat}{bs:List Int}:(Row.set a b).tells bs=Yj:=rfl
@[simp] theorem Zu9{b:Nat}:(Row.set a b).qX=false:=rfl
@[simp] theorem Zu6{k:Nat}{bs:List Int}:(Row.jump k).tells bs=Yj:=rfl
@[simp] theorem ZtC{k:Nat}:(Row.jump k).qX=false:=rfl
@[simp] theorem Zu4{k:Nat}{bs:List Int}:(Row.when a k).tells bs=Yj:=rfl
@[simp] theorem Ztr{k:Nat}:(Row.when a k).qX=false:=rfl
@[simp] theorem ZvA{bs:List Int}:(Row.tell a).tells bs=bs[a]?:=rfl
@[simp] theorem ZtE:(Row.tell a).qX=false:=rfl
@[simp] theorem Zt6{bs:List Int}:(Row.halt).tells bs=Yj:=rfl
@[simp] theorem Zts :(Row.halt).qX=true:=rfl
mutual
theorem Zo9:∀(n:Nat) (d:D),cT n d=true->cG d d=true
 |_,.non,_=>rfl|_,.bl b,_=>beq_self_eq_true b|_,.int b,_=>beq_self_eq_true b|_,.str b,_=>beq_self_eq_true b
 |0,.tup _,h=>ft h|n+1,.tup ds,h=>ZiG n ds (gO.mp h)|n,.a_ _,h=>by cases n<;>exact ft h|n,.ref _,h=>by cases n<;>exact ft h
theorem ZiG:∀(n:Nat) (ds:List D),(∀d∈ds,cT n d=true)->gD ds ds=true
 |_,[],_=>rfl|n,d::ds,h=>by simp only[Zt8,Rk,Y5];exact⟨Zo9 n d (h d Yg),ZiG n ds λx hx=>h x (Ye _ hx)⟩
end
def Rt(o:O3)(d:D):Prop:=∃M',o= .rt d M'
theorem Rt.set{r:D}(h:f env M= .ok d M')(k:Rt (g env' M') r)(he:env.set i (Ya d)=env':=by first|(dsimp only[zP,zQ]<;>exact rfl)|exact rfl):Rt (Zw (aJ i f) g env M) r:=by rw[Rt,Ze (Zr h he)];exact k
theorem Rt.expr{r:D}(h:f env M= .ok d M')(k:Rt (g env M') r):Rt (Zw (bV f) g env M) r:=by rw[Rt,Ze (Ft h)];exact k
theorem Rt.skip{c:E3}{u:S3}{r:D}(h:c env M= .ok (.bl false) M')(k:Rt (g env M') r):Rt (Zw (aK c u aY) g env M) r:=by rw[Rt,Ze (Zq h)];exact k
theorem Rt.loop{i:I3}{t:G3}{u:S3}{M M' M1:Store}{it:gU}{r:D}(h:i env M= .ok it M1)(hl:cX it t u it.items env M1= .nx env' M')(k:Rt (g env' M') r):Rt (Zw (ul i t u) g env M) r:=by rw[Rt,Ze ((Fv h).trans hl)];exact k
theorem Rt.step{f:S3}{r:D}(h:f env M= .nx env' M')(k:Rt (g env' M') r):Rt (Zw f g env M) r:=by rw[Rt,Ze h];exact k
theorem Rt.ret(h:f env M= .ok d M'):Rt (aX f env M) d:=⟨M',cF h⟩
theorem Rt.law{ps:Nat}{b:Bool}(h:Rt (body env []) (.bl b))(hl:autoParam (ds.length=ps) qA)(he:autoParam (ds.map Ya++Y2 (n-ps) Yj=env) qA):∃M',bL ps n body ds []= .ok (.bl b) M':=by obtain⟨M',h⟩:=h;exact⟨_,(kJ h hl he).trans (by rw[dG,if_pos (by simp[below])])⟩
theorem Rt.pure{ps:Nat}{G:Store}(h:body env M= .rt d (M++G))(hd:below M.length d=true)(hl:autoParam (ds.length=ps) qA)(he:autoParam (ds.map Ya++Y2 (n-ps) Yj=env) qA):bL ps n body ds M= .ok d M:=(kJ h hl he).trans (Zq9 hd)
theorem Zj{op:D->D->Store->R3 D}{g:E3}{M M1 M2 M3:Store}{a b d:D}(h1:f env M= .ok a M1)(h2:g env M1= .ok b M2)(h3:op a b M2= .ok d M3):e2 op f g env M= .ok d M3:=by simp only[e2,h1,h2,h3,R3.bind]
theorem gK{F:F3}{M M1 M2:Store}{a:D}(h1:f env M= .ok a M1)(h2:F [a] M1= .ok d M2):bf F (Zb f Zg) env M= .ok d M2:=by simp only[bf,Zb,Zg,h1,h2,R3.bind]
theorem oO{F:F3}{g:E3}{M M1 M2 M3:Store}{a b d:D}(h1:f env M= .ok a M1)(h2:g env M1= .ok b M2)(h3:F [a,b] M2= .ok d M3):bf F (Zb f (Zb g Zg)) env M= .ok d M3:=by simp only[bf,Zb,Zg,h1,h2,h3,R3.bind]
@[simp] theorem Zx1(a b:m7):(a==b)=decide (a=b):=by cases a<;>cases b<;>rfl
theorem cQ{b:List D->Store->R3 D}{M M1 M2:Store}{a:D}(h1:f env M= .ok a M1)(h2:b [a] M1= .ok d M2):aG b (Zb f Zg) env M= .ok d M2:=by simp only[aG,Zb,Zg,h1,h2,R3.bind]
theorem eU{op:D->Store->R3 D}{M M1 M2:Store}{a:D}(h1:f env M= .ok a M1)(h2:op a M1= .ok d M2):e1 op f env M= .ok d M2:=by simp only[e1,h1,h2,R3.bind]
theorem Zo{g:cW}{M M1 M2:Store}(h1:f env M= .ok d M1)(h2:g env M1= .ok ds M2):Zb f g env M= .ok (d::ds) M2:=by simp only[Zb,h1,h2,R3.bind]
theorem pP{g:cW}(h:g env M= .ok ds M')(hl:decide (ds.length<=100)=true):jb g env M= .ok (.tup ds) M':=by have:=of_decide_eq_true hl;simp only[jb,h,R3.bind];rw[if_pos (Yp this (by decide))]
variable{xs:List D}
theorem kO(h:M[n]?=Ya (.lst xs)):bx [.ref n] M= .ok (.int (xs.length:Int)) M:=by simp only[Fg,Fi,Fj,uf,h]
theorem Ay(h:M[n]?=Ya (.lst xs)):gY [.ref n] M= .ok (.tup xs) M:=by simp only[Zjy,Zjr,Ar,h]
theorem jy{i:Int}(h:M[n]?=Ya (.lst xs))(hd:dW xs i=Ya d):Zz (.ref n) (.int i) M= .ok d M:=by simp only[Rv,Rx,Ry,Rz,h,hd]
theorem Az{i:Int}(hd:dW xs i=Ya d):Zz (.tup xs) (.int i) M= .ok d M:=by simp only[Rv,Rx,Ry,Rz,hd]
theorem Zx2{a b:Int}(h:a<=b):EY (.int a) (.int b) M= .ok (.bl true) M:=by simp only[ZnL,decide_eq_true h]
theorem Zxf{a b:Int}(h:a=b):aN (.int a) (.int b) M= .ok (.bl true) M:=by simp only[aN,Al,rJ,vU,J0,J1,decide_eq_true h]
theorem Zys{a b:Int}(h:¬a=b):aN (.int a) (.int b) M= .ok (.bl false) M:=by simp only[aN,Al,rJ,vU,J0,J1,decide_eq_false h]
theorem Zw2{a b:List Nat}(h:¬a=b):iI (.str a) (.str b) M= .ok (.bl true) M:=by simp only[iI,Al,rJ,vU,J0,J1,decide_eq_false h];rfl
theorem ZtK{a b:List Nat}(h:a=b):iI (.str a) (.str b) M= .ok (.bl false) M:=by simp only[iI,Al,rJ,vU,J0,J1,decide_eq_true h];rfl
theorem yh{i j:Int}(h:0<j):gW (.int i) (.int j) M= .ok (.int (i % j)) M:=by simp only[Zk5,if_pos h]
theorem m_{g:E3}{M M1:Store}(h1:f env M= .ok (.bl false) M1):dz f g env M=g env M1:=by simp only[dz,h1,R3.bind]
theorem yj{g:E3}{M M1:Store}(h1:f env M= .ok (.bl true) M1):dz f g env M= .ok (.bl true) M1:=by simp only[dz,h1,R3.bind]
theorem lY{g:E3}{M M1:Store}(h1:f env M= .ok (.bl true) M1):eO f g env M=g env M1:=by simp only[eO,h1,R3.bind]
theorem oR{g:E3}{M M1:Store}(h1:f env M= .ok (.bl false) M1):eO f g env M= .ok (.bl false) M1:=by simp only[eO,h1,R3.bind]
theorem Fx{c g:E3}{M M1:Store}(h1:c env M= .ok (.bl true) M1):jL c f g env M=f env M1:=by simp only[jL,h1,R3.bind]
theorem Fy{c g:E3}{M M1:Store}(h1:c env M= .ok (.bl false) M1):jL c f g env M=g env M1:=by simp only[jL,h1,R3.bind]
theorem A_{enc:α->D}{h:α->D}{own:Nat}{it:I3}{elt:E3}{M M1:Store}{lock:Option Nat}{as:List α}(hi:it env M= .ok ⟨as.map enc,lock⟩ M1)(M8:∀n,lock=Ya n->M1[n]?=Ya (.lst (as.map enc)))(he:∀a∈as,∀M,elt ((env++Y2 own Yj).set i (Ya (enc a))) M= .ok (h a) M)(hz:as.length<=100000):jx it own (dN i) [] elt env M= .ok (.ref M1.length) (M1++[.lst (as.map h)]):=by
 rw [Zqn hi];obtain⟨es,le,re,hh⟩:=ZpP (it:=⟨as.map enc,lock⟩) (i:=i) (n:=M1.length) (elt:=elt) (R:=λd e=>∀a∈as,d=enc a->e=h a) (env0:=env++Y2 own Yj) (as.map enc) [] (env++Y2 own Yj) (M1++[.lst []]) (λ_=>rfl)
  (λd hd x=>by obtain⟨a,ha,rfl⟩:=lR.mp hd;refine⟨h a,he a ha _,λb hb e=>?_⟩;have h1:=he a ha [];have h2:=he b hb [];rw[e,h2]at h1;injection h1 with h1 _;exact h1.symm)
  (λx=>by
   cases lock with
   |none=>rfl|some n=>have hn:=M8 n rfl;have hlt:=(Yh.mp hn).1;simp only[locked,decide_eq_true_eq];rw[Yz (by exactλz=>lB 2 25787699233 T1 z hlt),Y3 hlt,hn]) (by simp) (by simp;exact lA 1 0xf42405b00186a05b001 T1 hz)
 rw [show(⟨as.map enc,lock⟩:gU).items=as.map enc from rfl,hh];have:es=as.map h:=by
  apply zR;intro j;rw[ou];cases ha:as[j]? with
  |none=>
   have:as.length<=j:=by simpa using ha
   simp[le];exact this
  | some a=>
   have hj:j<es.length:=by have:=(Yh.mp ha).1;simpa[le]using this
   have h2:=re j (enc a) es[j] (by simp[ha]) (by simp[hj]) a (zN ha) rfl;rw[jG hj,h2];rfl
 rw[this];simp
noncomputable def Zr5(cs:List (Int×Int))(n v:Int):List (Int×Int):=cs.filter (λc=>decide (c.1<n))++(if v≠0 then[(n,v)]else[])++cs.filter (λc=>decide (n<c.1))
noncomputable def Row.cells(bs:List Int)(cs:List (Int×Int)):Row->List (Int×Int)
 | .set a b=>Zr5 cs (bs.getD a 0) (bs.getD b 0)|_=>cs
noncomputable def cY(i:Int):List Nat:=(PySem.Str.ofString (vK i)).cps.toList
noncomputable section
local instance (priority:=100000) Ae5 (p:Prop):Decidable p:=Yx p
noncomputable def Ba(ds:List D)(M:Store):R3 D:=match ds with
 |[.int i]=>if i.natAbs.log2<1920 then .ok (.str (cY i)) M else .bad|[.str x]=>.ok (.str x) M|_=>.bad
@[simp] theorem Znu:∀i,Ba ([.int i]) M=(if i.natAbs.log2<1920 then .ok (.str (cY i)) M else .bad):=λ_=>rfl
@[simp] theorem Zte:∀x,Ba ([.str x]) M= .ok (.str x) M:=λ_=>rfl
noncomputable def jd:List D->Option (List (List Nat))
 |[]=>Ya []|.str x::ds=>(jd ds).map (x:: ·)|_=>Yj
noncomputable def glue(sep:List Nat):List (List Nat)->List Nat
 |[]=>[]|[x]=>x|x::y::xs=>x++sep++glue sep (y::xs)
noncomputable def ni(sep:List Nat)(ts:List (List Nat)):Nat:=(ts.map λt=>t.length+sep.length).sum
noncomputable def Bb(o:D)(ds:List D)(M:Store):R3 D:=match o,ds with
 | .str sep,[.ref n]=>match M[n]? with
  |some (.lst x)=>match jd x with
   |some ts=>if ni sep ts<=SZ then .ok (.str (glue sep ts)) M else .bad|none=>.bad
  |_=>.bad
 |_,_=>.bad
@[simp] theorem Zle:∀sep n,Bb (.str sep) ([.ref n]) M=(match M[n]? with
  |some (.lst x)=>match jd x with
   |some ts=>if ni sep ts<=SZ then .ok (.str (glue sep ts)) M else .bad|none=>.bad
  |_=>.bad):=λ_ _=>rfl
noncomputable def lZ(x y:List Nat):List (List Nat):=(Ymc ⟨x.toArray⟩ ⟨y.toArray⟩).map λt=>t.cps.toList
noncomputable def rO(o:D)(ds:List D)(M:Store):R3 D:=match o,ds with
 | .str x,[.str y]=>if 0<y.length/\x.length+2<=SZ then alloc (.lst ((lZ x y).map D.str)) M else .bad|_,_=>.bad
@[simp] theorem ZjB:∀x y,rO (.str x) ([.str y]) M=(if 0<y.length/\x.length+2<=SZ then alloc (.lst ((lZ x y).map D.str)) M else .bad):=λ_ _=>rfl
noncomputable def oU(ds:List D)(M:Store):R3 D:=match ds with
 |[.str x]=>match HW ⟨x.toArray⟩with
  |some n=>if x.length<=640 then .ok (.int n) M else .bad|none=>.bad
 |ds=>Fo ds M
@[simp] theorem Zlw:∀x,oU ([.str x]) M=(match HW ⟨x.toArray⟩with
  |some n=>if x.length<=640 then .ok (.int n) M else .bad|none=>.bad):=λ_=>rfl
@[simp] theorem ZpL:∀i,oU [.int i] M= .ok (.int i) M:=λ_=>rfl
@[simp] theorem ZwZ:∀b,oU [.bl b] M=Fo [.bl b] M:=λ_=>rfl
@[simp] noncomputable def Fz(T1 T2:m7)(d:D)(M:Store):R3 D:=match ju T1 d M,ju T2 d M with
 |some a,Ya b=>.ok (.bl (a|| b)) M|_,_=>.bad
end
noncomputable section
noncomputable def Bc(f:E3)(g:G3):S3:=λenv M=>match f env M with
 | .ok d M1=>match g d env with
  |some dm=>.nx dm M1|none=>.bad
 | .exc x M1=>.exc x M1|.bad=>.bad
structure FJ where
 items:List D
 lk:List (Nat×List D)
noncomputable def je(lk:List (Nat×List D))(M:Store):Bool:=lk.all λq=>decide (M[q.1]?=Ya (.lst q.2))
noncomputable abbrev yo:=Zx->Store->R3 FJ
noncomputable def kW:Nat->List D->List D
 |_,[]=>[]|k,d::ds=>.tup [.int k,d]::kW (k+1) ds
@[simp] noncomputable def RM(f:E3):yo:=λenv M=>(f env M).bind λa M1=>match a with
 | .tup ds=>.ok ⟨kW 0 ds,[]⟩ M1|.ref n=>match M1[n]? with
  |some (.lst ds)=>.ok ⟨kW 0 ds,[(n,ds)]⟩ M1|_=>.bad
 |_=>.bad
noncomputable def Zwh(a b:D)(M:Store):R3 D:=match a,b with
 | .tup [.int i,.int j],.tup [.int k,.int l]=>.ok (.bl (decide (i<k)|| (decide (i=k)&&decide (j<=l)))) M|_,_=>.bad
@[simp] theorem Zv7:∀i j k l,Zwh (.tup [.int i,.int j]) (.tup [.int k,.int l]) M= .ok (.bl (decide (i<k)|| (decide (i=k)&&decide (j<=l)))) M:=λ_ _ _ _=>rfl
noncomputable def ZyA(f:E3)(is:List Nat):S3:=λenv M=>match f env M with
 | .ok (.ref n) M1=>(match M1[n]? with
  |some (.lst ds)=>(match bindAll is ds env with
   |some dm=>.nx dm M1|none=>.bad)
  |_=>.bad)
 |_=>.bad
noncomputable def J7(ds:List D)(M:Store):R3 D:=match ds with
 |[.int i,.int j]=>.ok (.int (if j>i then j else i)) M|_=>.bad
@[simp] theorem ZqG:∀i j,J7 ([.int i,.int j]) M= .ok (.int (if j>i then j else i)) M:=λ_ _=>rfl
noncomputable def rP(a b:D)(M:Store):R3 D:=match b with
 | .ref n=>match M[n]? with
  |some (.lst ys)=>if b8 a&&ys.all b8 then .ok (.bl (ys.any λy=>cG y a)) M else .bad|_=>.bad
 |_=>.bad
@[simp] theorem ZqU{a:D}:∀n,rP a (.ref n) M=(match M[n]? with
  |some (.lst ys)=>if b8 a&&ys.all b8 then .ok (.bl (ys.any λy=>cG y a)) M else .bad|_=>.bad):=λ_=>rfl
theorem J8:∀(k:Nat) (ds:List D) (i:Nat),(kW k ds)[i]?=(ds[i]?).map λd=>.tup [.int ((k+i:Nat):Int),d]
 |_,[],_=>by simp[kW]|k,d::ds,0=>by simp[kW]|k,d::ds,i+1=>by simp only[kW,Im,J8 (k+1) ds i];rw[show k+1+i=k+(i+1)by exact gn (lB 0 0xa1c0c1a0cc0 T1) (lB 0 1790139547840 T1)]
theorem J9:∀(k:Nat) (ds:List D),(kW k ds).length=ds.length
 |_,[]=>rfl|k,d::ds=>by simp[kW,J9 (k+1) ds]
end
noncomputable section
noncomputable def RN:List D->List D->List D
 |a::x,b::y=>.tup [a,b]::RN x y|_,_=>[]
@[simp] noncomputable def ZyW(f g:E3):yo:=λenv M=>(f env M).bind λa M1=>(g env M1).bind λb M2=>match a,b with
 | .ref n,.ref m=>match M2[n]?,M2[m]? with
  |some (.lst x),Ya (.lst y)=>.ok ⟨RN x y,[(n,x),(m,y)]⟩ M2|_,_=>.bad
 |_,_=>.bad
section
local instance (priority:=100000) Ae6 (p:Prop):Decidable p:=Yx p
noncomputable def jf(lk:List (Nat×List D))(g:G3)(ifs:List E3)(elt:E3)(n:Nat):List D->Zx->Store->R3 D
 |[],_,M=>if je lk M then .ok (.ref n) M else .bad|d::ds,env,M=>if je lk M then match g d env with
  |none=>.bad|some dm=>(um ifs dm M).bind λb M1=>if b then(elt dm M1).bind λv M2=>match M2[n]? with
    |some (.lst xs)=>if xs.length<SZ then jf lk g ifs elt n ds dm (M2.set n (.lst (xs++[v])))else .bad|_=>.bad
   else jf lk g ifs elt n ds dm M1
  else .bad
end
noncomputable def vW(i:yo)(own:Nat)(g:G3)(ifs:List E3)(elt:E3):E3:=λenv M=>(i env M).bind λit M1=>jf it.lk g ifs elt M1.length it.items (env++Y2 own Yj) (M1++[.lst []])
end
noncomputable section
end
noncomputable def vX(f:List Nat)(d:D):List (List Nat×D)->List (List Nat×D)
 |[]=>[(f,d)]|(g,x)::r=>if g=f then(g,d)::r else(g,x)::vX f d r
noncomputable def jg(c f:List Nat)(a:D)(M:Store):R3 D:=match a with
 | .ref n=>match M[n]? with
  |some (.ins c' fs)=>if c'=c then(match fs.lookup f with
   |some d=>.ok d M|none=>.bad)else .bad
  |_=>.bad
 |_=>.bad
@[simp] theorem ZlW{c:List Nat}{f:List Nat}:∀n,jg c f (.ref n) M=(match M[n]? with
  |some (.ins c' fs)=>if c'=c then(match fs.lookup f with
   |some d=>.ok d M|none=>.bad)else .bad
  |_=>.bad):=λ_=>rfl
noncomputable def Zq7(c f:List Nat)(v a:D)(M:Store):R3 D:=match a with
 | .ref n=>match M[n]? with
  |some (.ins c' fs)=>if c'=c/\fs.length<1000 then .ok .non (M.set n (.ins c (vX f v fs)))else .bad|_=>.bad
 |_=>.bad
@[simp] theorem RP{c:List Nat}{f:List Nat}{v:D}:∀n,Zq7 c f v (.ref n) M=(match M[n]? with
  |some (.ins c' fs)=>if c'=c/\fs.length<1000 then .ok .non (M.set n (.ins c (vX f v fs)))else .bad|_=>.bad):=λ_=>rfl
noncomputable def FN(c f:List Nat)(o v:E3):S3:=bV (e2 (Zq7 c f) v o)
@[simp] noncomputable def yp(c:List Nat)(F:F3)(g:cW):E3:=λenv M=>(g env M).bind λds M1=>match F (.ref M1.length::ds) (M1++[.ins c []])with
 | .ok .non M2=>.ok (.ref M1.length) M2|_=>.bad
noncomputable section
@[simp] noncomputable def oV(f:E3):E3:=λenv M=>match f env M with
 | .exc _ _=>.bad|r=>r
@[simp] noncomputable def pQ(f:cW):cW:=λenv M=>match f env M with
 | .exc _ _=>.bad|r=>r
noncomputable def fO(f:S3):S3:=λenv M=>match f env M with
 | .exc _ _=>.bad|o=>o
noncomputable def yq(cs:List (List Nat))(j:Nat)(b h:S3):S3:=λenv M=>match b env M with
 | .exc x M'=>if cs.contains x.cls then(match h (env.set j (Ya x.arg)) M' with
  | .nx e' M2=>.nx (e'.set j Yj) M2|_=>.bad)else .bad
 |o=>o
end
noncomputable section
noncomputable def FP(i:I3)(g:G3)(body:S3):S3:=λenv M=>match i env M with
 | .ok it M1=>cX it g body it.items env M1|_=>.bad
end
noncomputable section
noncomputable abbrev J_:=List (List Nat×List (List Nat))
noncomputable def RQ(f:E3):yo:=λenv M=>(f env M).bind λa M1=>match a with
 | .ref n=>match M1[n]? with
  |some (.lst ds)=>.ok ⟨kW 1 ds,[(n,ds)]⟩ M1|_=>.bad
 |_=>.bad
noncomputable def Zw1(M:Store):D->Option (List D×List (Nat×List D))
 | .tup x=>Ya (x,[])|.ref n=>match M[n]? with
  |some (.lst x)=>Ya (x,[(n,x)])|_=>Yj
 |_=>Yj
end
noncomputable section
noncomputable abbrev jO:=List (List Nat×Int)
noncomputable def dX(x:List Nat):jO->Option Int
 |[]=>Yj|(k,v)::r=>if x=k then Ya v else dX x r
noncomputable def uo(t:jO)(d e:D)(M:Store):R3 D:=match d with
 | .str x=>match dX x t with
  |some i=>.ok (.int i) M|none=>.ok e M
 | .int _=>.ok e M|_=>.bad
noncomputable def Zx6(x y:List D)(M:Store):R3 D:=match Zqx (RN x y)with
 |some l=>if l.length<=100000 then alloc (.dct (dictOf l)) M else .bad|none=>.bad
noncomputable def Zxv(f g:E3):E3:=λenv M=>(f env M).bind λa M1=>(g env M1).bind λb M2=>match Zw1 M2 a,Zw1 M2 b with
 |some (x,_),Ya (y,_)=>Zx6 x y M2|_,_=>.bad
noncomputable def Zrt:D->Option (Nat×Int)
 | .tup [.ref n,.int i]=>Ya (n,i)|_=>Yj
noncomputable def Zyq(x y:List D)(r:Bool)(M:Store):R3 D:=if x.all (cT 50)=true/\y.all (cT 50)=true then .ok (.bl (gD x y&&r)) M else .bad
noncomputable def ZyN(a b:D)(M:Store):R3 D:=match Zrt a,Zrt b with
 |some (n,i),Ya (m,j)=>match M[n]?,M[m]? with
  |some (.lst x),Ya (.lst y)=>if n=m then .bad else Zyq x y (i==j) M|_,_=>.bad
 |_,_=>.bad
noncomputable def Be(a b:D)(M:Store):R3 D:=match b with
 | .ref n=>match M[n]? with
  |some (.lst ys)=>if b8 a&&ys.all b8 then .ok (.bl (!ys.any λy=>cG y a)) M else .bad|_=>.bad
 |_=>.bad
end
noncomputable section
end
noncomputable section
local instance (priority:=100000) Ae7 (p:Prop):Decidable p:=Yx p
end
open PySem PySem.Spec PyProof.Rows _L2
noncomputable abbrev St:=_L2.St
theorem l_:SZ<=bF:=by rw[q8];decide
def oW(K:Yb)(H:Hp)(a:Ys)(xs:List V):Prop:=
 (∃o,H a=Ya (.b7 o (.lst xs)))\/
  ∃(o:aD) (its:Array Yd) (n:Nat),K.lookup a=Ya o/\o.cls= .type "list" /\o.dict=Yj/\o.data= .seq its n/\its.size<=bF/\Vals xs its.toList
variable{H:Hp}{K:Yb}
theorem oW.sq{a:Ys}{xs:List V}(h:oW K H a xs):bD K H a xs:=by
 rcases h with⟨o,h⟩|h
 .exact .inl (.inr ⟨o,h⟩)
 .exact .inr h
mutual
noncomputable def Rep(K:Yb)(H:Hp)(ι:List Ys):D->V->Prop
 | .non,v=>v= .non|.bl b,v=>v= .bl b|.int i,v=>v= .int i|.str x,v=>v= .str ⟨x.toArray⟩
 | .tup ds,v=>∃a vs,v= .ref a/\cM K H a vs/\Zm K H ι ds vs|.a_ ds,v=>∃a vs,v= .ref a/\oW K H a vs/\Zm K H ι ds vs|.ref n,v=>∃a,ι[n]?=Ya a/\v= .ref a
noncomputable def Zm(K:Yb)(H:Hp)(ι:List Ys):List D->List V->Prop
 |[],vs=>vs=[]|d::ds,vs=>∃v ws,vs=v::ws/\Rep K H ι d v/\Zm K H ι ds ws
end
structure Ext(K:Yb)(H:Hp)(ι:List Ys)(H':Hp)(ι':List Ys):Prop where
 tup:∀a xs,cM K H a xs->cM K H' a xs
 a_:∀a xs,oW K H a xs->oW K H' a xs
 pre:∀(n:Nat) (a:Ys),ι[n]?=Ya a->ι'[n]?=Ya a
 b7:∀a o u,H a=Ya (.b7 o u)->H' a=Ya (.b7 o u)
variable{vs:List V}{v:V}
section
variable {K:Yb} {H H' H1 H2:Hp} {ι ι' ι1 ι2:List Ys}
theorem Ext.refl:Ext K H ι H ι:=⟨λ_ _ h=>h,λ_ _ h=>h,λ_ _ h=>h,λ_ _ _ h=>h⟩
theorem Ext.trans(a:Ext K H ι H1 ι1)(b:Ext K H1 ι1 H2 ι2):Ext K H ι H2 ι2:=⟨λx xs h=>b.tup x xs (a.tup x xs h),λx xs h=>b.a_ x xs (a.a_ x xs h),λn x h=>b.pre n x (a.pre n x h),λx o u h=>b.b7 x o u (a.b7 x o u h)⟩
mutual
theorem Rep.mono(e:Ext K H ι H' ι'):∀{d:D} {v:V},Rep K H ι d v->Rep K H' ι' d v
 | .non,_,h=>h|.bl _,_,h=>h|.int _,_,h=>h|.str _,_,h=>h
 | .tup ds,_,h=>by obtain⟨a,vs,rfl,s,r⟩:=h;exact⟨a,vs,rfl,e.tup _ _ s,Zm.mono e (ds:=ds) r⟩|.a_ ds,_,h=>by obtain⟨a,vs,rfl,s,r⟩:=h;exact⟨a,vs,rfl,e.a_ _ _ s,Zm.mono e (ds:=ds) r⟩|.ref n,_,h=>by obtain⟨a,s,rfl⟩:=h;exact⟨a,e.pre _ _ s,rfl⟩
theorem Zm.mono(e:Ext K H ι H' ι'):∀{ds:List D} {vs:List V},Zm K H ι ds vs->Zm K H' ι' ds vs
 |[],_,h=>h|d::ds,_,h=>by obtain⟨v,ws,rfl,r,q⟩:=h;exact⟨v,ws,rfl,Rep.mono e (d:=d) r,Zm.mono e (ds:=ds) q⟩
end
mutual
theorem Rep.keep(ht:∀a xs,cM K H a xs->cM K H' a xs)(hs:∀a xs,oW K H a xs->oW K H' a xs):∀{d:D} {v:V},Rep K H ι d v->Rep K H' ι d v
 | .non,_,h=>h|.bl _,_,h=>h|.int _,_,h=>h|.str _,_,h=>h
 | .tup ds,_,h=>by obtain⟨a,vs,rfl,s,r⟩:=h;exact⟨a,vs,rfl,ht _ _ s,Zm.keep ht hs (ds:=ds) r⟩|.a_ ds,_,h=>by obtain⟨a,vs,rfl,s,r⟩:=h;exact⟨a,vs,rfl,hs _ _ s,Zm.keep ht hs (ds:=ds) r⟩|.ref n,_,h=>h
theorem Zm.keep(ht:∀a xs,cM K H a xs->cM K H' a xs)(hs:∀a xs,oW K H a xs->oW K H' a xs):∀{ds:List D} {vs:List V},Zm K H ι ds vs->Zm K H' ι ds vs
 |[],_,h=>h|d::ds,_,h=>by obtain⟨v,ws,rfl,r,q⟩:=h;exact⟨v,ws,rfl,Rep.keep ht hs (d:=d) r,Zm.keep ht hs (ds:=ds) q⟩
end
theorem Zm.nil:Zm K H ι [] []:=rfl
theorem Zm.cons{d:D}{ds:List D}{v:V}{vs:List V}(h:Rep K H ι d v)(t:Zm K H ι ds vs):Zm K H ι (d::ds) (v::vs):=⟨v,vs,rfl,h,t⟩
theorem Zm.nil_inv(h:Zm K H ι [] vs):vs=[]:=h
theorem Zm.cons_inv(h:Zm K H ι (d::ds) vs):∃v ws,vs=v::ws/\Rep K H ι d v/\Zm K H ι ds ws:=h
theorem Zm.length:∀{ds:List D} {vs:List V},Zm K H ι ds vs->vs.length=ds.length
 |[],_,h=>by rw[h.nil_inv];rfl|d::ds,_,h=>by obtain⟨v,ws,rfl,_,q⟩:=h.cons_inv;exact congrArg Nat.succ q.length
theorem Zm.append:∀{ds es:List D} {vs ws:List V},Zm K H ι ds vs->Zm K H ι es ws->Zm K H ι (ds++es) (vs++ws)
 |[],_,_,_,h,q=>by rw[h.nil_inv];exact q|d::ds,_,_,_,h,q=>by obtain⟨v,us,rfl,r,t⟩:=h.cons_inv;exact Zm.cons r (t.append q)
theorem Zm.drop:∀{ds:List D} {vs:List V} (n:Nat),Zm K H ι ds vs->Zm K H ι (ds.drop n) (vs.drop n)
 |_,_,0,h=>h|[],_,n+1,h=>by rw[h.nil_inv];exact Zm.nil|d::ds,_,n+1,h=>by obtain⟨v,us,rfl,r,t⟩:=h.cons_inv;exact t.drop n
theorem Zm.take:∀{ds:List D} {vs:List V} (n:Nat),Zm K H ι ds vs->Zm K H ι (ds.take n) (vs.take n)
 |_,_,0,h=>Zm.nil|[],_,n+1,h=>by rw[h.nil_inv];exact Zm.nil|d::ds,_,n+1,h=>by obtain⟨v,us,rfl,r,t⟩:=h.cons_inv;exact Zm.cons r (t.take n)
theorem Zm.get:∀{ds:List D} {vs:List V} {i:Nat} {d:D},Zm K H ι ds vs->ds[i]?=Ya d->∃v,vs[i]?=Ya v/\Rep K H ι d v
 |[],_,_,_,_,e=>by simp at e|d::ds,_,0,_,h,e=>by obtain⟨v,us,rfl,r,t⟩:=h.cons_inv;simp at e;subst e;exact⟨v,rfl,r⟩
 |d::ds,_,i+1,_,h,e=>by obtain⟨v,us,rfl,r,t⟩:=h.cons_inv;obtain⟨w,q,z⟩:=t.get (i:=i) (by simpa using e);exact⟨w,by simpa using q,z⟩
theorem Zm.set:∀{ds:List D} {vs:List V} {d:D} {v:V} (i:Nat),Zm K H ι ds vs->Rep K H ι d v->Zm K H ι (ds.set i d) (vs.set i v)
 |[],_,_,_,_,h,_=>by rw[h.nil_inv];exact Zm.nil|d::ds,_,_,_,0,h,q=>by obtain⟨v,us,rfl,r,t⟩:=h.cons_inv;exact Zm.cons q t
 |d::ds,_,_,_,i+1,h,q=>by obtain⟨v,us,rfl,r,t⟩:=h.cons_inv;exact Zm.cons r (t.set i q)
theorem Zm.ints:∀(ns:List Int),Zm K H ι (ns.map D.int) (ns.map V.int)
 |[]=>Zm.nil|n::ns=>Zm.cons rfl (Zm.ints ns)
theorem Rep.iM(h:Rep K H ι .non v):v= .non:=h
theorem Rep.gC{b:Bool}(h:Rep K H ι (.bl b) v):v= .bl b:=h
theorem Rep.int_inv{i:Int}(h:Rep K H ι (.int i) v):v= .int i:=h
theorem Rep.str_inv{x:List Nat}(h:Rep K H ι (.str x) v):v= .str ⟨x.toArray⟩:=h
theorem Rep.jk(h:Rep K H ι (.tup ds) v):∃a vs,v= .ref a/\cM K H a vs/\Zm K H ι ds vs:=h
theorem Rep.uW(h:Rep K H ι (.a_ ds) v):∃a vs,v= .ref a/\oW K H a vs/\Zm K H ι ds vs:=h
theorem Rep.e_(h:Rep K H ι (.ref n) v):∃a,ι[n]?=Ya a/\v= .ref a:=h
theorem Rep.non:Rep K H ι .non .non:=rfl
theorem Rep.bl{b:Bool}:Rep K H ι (.bl b) (.bl b):=rfl
theorem Rep.int{i:Int}:Rep K H ι (.int i) (.int i):=rfl
theorem Rep.str{x:List Nat}:Rep K H ι (.str x) (.str ⟨x.toArray⟩):=rfl
theorem Rep.tup{a:Ys}{vs:List V}{ds:List D}(s:cM K H a vs)(r:Zm K H ι ds vs):Rep K H ι (.tup ds) (.ref a):=⟨a,vs,rfl,s,r⟩
theorem Rep.ref{a:Ys}(s:ι[n]?=Ya a):Rep K H ι (.ref n) (.ref a):=⟨a,s,rfl⟩
end
def yr(e C:Ys)(dd:Option Ys)(h:au):Prop:=∃o vs,h.get? e=Ya o/\o.cls= .ref C/\o.data= .fields vs/\o.dict=dd
noncomputable abbrev uq(e C:Ys)(dd:Option Ys):HO:=.ext (yr e C dd)
noncomputable def dk:gq->Key
 | .inl i=>.inl i|.inr x=>.inr ⟨x.toArray⟩
def cZ(K:Yb)(H:Hp)(ι:List Ys)(kvs:List (gq×D))(ws:List (Key×V)):Prop:=ws.map (·.1)=kvs.map (λp=>dk p.1)/\Zm K H ι (kvs.map (·.2)) (ws.map (·.2))
def fG(K:Yb)(H:Hp)(ι:List Ys)(fs:List (List Nat×D))(gs:List (aj×V)):Prop:=gs.map (·.1)=fs.map (λp=>(⟨p.1.toArray⟩:aj))/\Zm K H ι (fs.map (·.2)) (gs.map (·.2))
def ClsAt(K:Yb)(c:List Nat)(C:Ys):Prop:=PySem.W.nsIn K Yu ⟨c.toArray⟩=Ya (Ya (.ref C))
def Ka(K:Yb)(H:Hp)(ι:List Ys)(fs:List (List Nat×D))(dd:Option Ys):Prop:=fs=[]\/∃dx o gs,dd=Ya dx/\H dx=Ya (.b7 o (.xd gs))/\fG K H ι fs gs
variable{ι:List Ys}
theorem Ka.up{H':Hp}{ι':List Ys}{fs:List (List Nat×D)}{dd:Option Ys}(hf:∀b o gs,H b=Ya (.b7 o (.xd gs))->H' b=Ya (.b7 o (.xd gs)))(hr:∀ds vs,Zm K H ι ds vs->Zm K H' ι' ds vs)(h:Ka K H ι fs dd):Ka K H' ι' fs dd:=h.imp id λz=>let⟨dx,o,gs,e,q,r1,r2⟩:=z;⟨dx,o,gs,e,hf _ _ _ q,r1,hr _ _ r2⟩
noncomputable def kY(K:Yb)(H:Hp)(ι:List Ys):MO->Ys->Prop
 | .lst xs,a=>∃vs,H a=Ya (.lst vs)/\Zm K H ι xs vs|.dct kvs,a=>∃ws,H a=Ya (.dK ws)/\cZ K H ι kvs ws|.cV kvs,a=>∃ws,(∃o,H a=Ya (.b7 o (.dK ws)))/\cZ K H ι kvs ws|.ins c fs,a=>(∃C dx gs,H a=Ya (.ins C dx gs)/\(ClsAt K c C/\c.head?≠Ya 0)/\fG K H ι fs gs)\/∃C dd,H a=Ya (uq a C dd)/\c.head?=Ya 0/\ClsAt K c.tail C/\Ka K H ι fs dd
structure aq(K:Yb)(H:Hp)(ι:List Ys)(M:Store):Prop where
 len:ι.length=M.length
 nd:ι.Nodup
 obj:∀(n:Nat) o a,M[n]?=Ya o->ι[n]?=Ya a->kY K H ι o a
def Loose(H:Hp)(p:Ys):Prop:=H p=Yj\/(∃vs,H p=Ya (.lst vs))\/(∃ws,H p=Ya (.dK ws))\/∃C dx gs,H p=Ya (.ins C dx gs)
variable{m:MO}
section
variable {K:Yb} {H H':Hp} {ι ι':List Ys} {M:Store} {p:Ys} {o:HO}
theorem Loose.ne{a:Ys}{u:HO}(l:Loose H p)(h:H a=Ya u)(h1:∀vs,u≠ .lst vs)(h2:∀ws,u≠ .dK ws)(h3:∀C dx gs,u≠ .ins C dx gs:=by exactλ_ _ _ z=>nomatch z):a≠p:=by
 rintro rfl;rcases l with l|⟨vs,l⟩|⟨ws,l⟩|⟨C,dx,gs,l⟩
 .rw[h]at l;cases l
 .rw[h]at l;exact h1 vs (Y9 l)
 .rw[h]at l;exact h2 ws (Y9 l)
 .rw[h]at l;exact h3 C dx gs (Y9 l)
theorem Loose.tup(l:Loose H p){a:Ys}{xs:List V}(h:cM K H a xs):cM K (upd H p o) a xs:=by
 rcases h with(h|⟨ob,h⟩)|h
 .exact .inl (.inl (by rw[Zu (l.ne h (λ_ z=>nomatch z) (λ_ z=>nomatch z))];exact h))
 .exact .inl (.inr ⟨ob,by rw[Zu (l.ne h (λ_ z=>nomatch z) (λ_ z=>nomatch z))];exact h⟩)
 .exact .inr h
theorem Loose.a_(l:Loose H p){a:Ys}{xs:List V}(h:oW K H a xs):oW K (upd H p o) a xs:=by
 rcases h with⟨ob,h⟩|h
 .exact .inl ⟨ob,by rw[Zu (l.ne h (λ_ z=>nomatch z) (λ_ z=>nomatch z))];exact h⟩
 .exact .inr h
theorem Loose.b7(l:Loose H p){a:Ys}{ob:aD}{u:HO}(h:H a=Ya (.b7 ob u)):upd H p o a=Ya (.b7 ob u):=by rw[Zu (l.ne h (λ_ z=>nomatch z) (λ_ z=>nomatch z))];exact h
theorem Loose.ext(l:Loose H p):Ext K H ι (upd H p o) ι:=⟨λ_ _ h=>l.tup h,λ_ _ h=>l.a_ h,λ_ _ h=>h,λ_ _ _ h=>l.b7 h⟩
theorem Loose.Dd(l:Loose H p):Ext K H ι (upd H p o) (ι++[p]):=⟨λ_ _ h=>l.tup h,λ_ _ h=>l.a_ h,λn a h=>by rw[Y3 (Yh.mp h).1];exact h,λ_ _ _ h=>l.b7 h⟩
theorem kY.mono{a:Ys}(e:Ext K H ι H' ι')(h:kY K H ι m a)(k:H' a=H a):kY K H' ι' m a:=by
 cases m with
 |lst xs=>obtain⟨vs,q,r⟩:=h;exact⟨vs,k.trans q,r.mono e⟩|dct kvs=>obtain⟨ws,q,r1,r2⟩:=h;exact⟨ws,k.trans q,r1,r2.mono e⟩|cV kvs=>obtain⟨ws,⟨o,q⟩,r1,r2⟩:=h;exact⟨ws,⟨o,k.trans q⟩,r1,r2.mono e⟩|ins c fs=>
  rcases h with⟨C,dx,gs,q,c,r1,r2⟩|⟨C,dd,q,z,c,r⟩
  .exact .inl ⟨C,dx,gs,k.trans q,c,r1,r2.mono e⟩
  .exact .inr ⟨C,dd,k.trans q,z,c,r.up (λb o g q=>e.b7 b o _ q) λ_ _ r=>r.mono e⟩
theorem kY.ne{a:Ys}(h:kY K H ι m a):H a≠Yj:=by
 cases m with
 |lst xs=>obtain⟨vs,q,r⟩:=h;rw[q];simp|dct kvs=>obtain⟨ws,q,r⟩:=h;rw[q];simp|cV kvs=>obtain⟨ws,⟨o,q⟩,r⟩:=h;rw[q];simp|ins c fs=>rcases h with⟨C,dx,gs,q,r⟩|⟨C,dd,q,r⟩<;>(rw[q];simp)
theorem aq.at(S:aq K H ι M)(h:M[n]?=Ya m):∃a,ι[n]?=Ya a/\kY K H ι m a:=by
 have hn:n<ι.length:=by rw[S.len];exact(Yh.mp h).1
 exact⟨ι[n],by simp[hn],S.obj n m _ h (by simp[hn])⟩
theorem aq.there(S:aq K H ι M){a:Ys}(h:ι[n]?=Ya a):∃m,M[n]?=Ya m/\kY K H ι m a:=by
 have hn:n<M.length:=by rw[←S.len];exact(Yh.mp h).1
 exact⟨M[n],by simp[hn],S.obj n _ _ (by simp[hn]) h⟩
theorem aq.fresh(S:aq K H ι M)(hp:H p=Yj):p∉ι:=λh=>by obtain⟨n,hn⟩:=Ir h;obtain⟨m,_,q⟩:=S.there hn;exact q.ne hp
theorem aq.other(S:aq K H ι M)(l:Loose H p)(hp:p∉ι):aq K (upd H p o) ι M:=⟨S.len,S.nd,λn m a h1 h2=>(S.obj n m a h1 h2).mono l.ext (by rw[Zu];rintro rfl;exact hp (zN h2))⟩
theorem aq.new(S:aq K H ι M)(hp:H p=Yj)(h:kY K (upd H p o) (ι++[p]) m p):aq K (upd H p o) (ι++[p]) (M++[m]):=by
 have hf:=S.fresh hp;refine⟨by simp[S.len],?_,λn m' a h1 h2=>?_⟩
 .exact O2.mpr ⟨S.nd,by simp,λx hx y hy=>by
   have e:y=p:=by simpa using hy
   subst e;rintro rfl;exact hf hx⟩
 .by_cases hn:n<ι.length
  .rw[Y3 hn]at h2;rw[Y3 (by rw[←S.len];exact hn)]at h1;refine(S.obj n m' a h1 h2).mono (Loose.Dd (.inl hp)) ?_;rw[Zu];rintro rfl;exact hf (zN h2)
  .rw[xr (iW hn)]at h2;rw[xr (by rw[←S.len];exact iW hn)]at h1;have hlt:n-ι.length<1:=by
    have:=(Yh.mp h2).1;simpa using this
   have e0:n-ι.length=0:=gn (lA 1 234922001 T1 hlt) (d8 _);rw[e0]at h2;rw[←S.len,e0]at h1;simp at h1 h2;subst h1 h2;exact h
theorem aq.put(S:aq K H ι M)(l0:Loose H p)(hn:ι[n]?=Ya p)(h:kY K (upd H p o) ι m p):aq K (upd H p o) ι (M.set n m):=by
 obtain⟨m0,hm0,q0⟩:=S.there hn;refine⟨by simp[S.len],S.nd,λk m' a h1 h2=>?_⟩;by_cases hk:k=n
 .subst hk;rw[hn]at h2;cases h2;have hlt:k<M.length:=(Yh.mp hm0).1;rw[jX hlt]at h1;cases h1;exact h
 .rw[Yz (bT hk)]at h1;refine(S.obj k m' a h1 h2).mono (Loose.ext l0) ?_;rw[Zu];rintro rfl;have hlt1:=(Yh.mp h2);have hlt2:=(Yh.mp hn);exact hk ((XC S.nd).mp (hlt1.2.trans hlt2.2.symm))
theorem aq.lst(S:aq K H ι M)(hp:H p=Yj){xs:List D}{vs:List V}(r:Zm K H ι xs vs):Ext K H ι (upd H p (.lst vs)) (ι++[p])/\aq K (upd H p (.lst vs)) (ι++[p]) (M++[.lst xs])/\Rep K (upd H p (.lst vs)) (ι++[p]) (.ref M.length) (.ref p):=by have e:Ext K H ι (upd H p (.lst vs)) (ι++[p]):=Loose.Dd (.inl hp);refine⟨e,S.new hp ⟨vs,fY,r.mono e⟩,Rep.ref ?_⟩;rw[←S.len];simp
theorem aq.tE(S:aq K H ι M)(hp:H p=Yj)(r:Zm K H ι xs vs):Ext K H ι (upd H p (.tup vs)) ι/\aq K (upd H p (.tup vs)) ι M/\Rep K (upd H p (.tup vs)) ι (.tup xs) (.ref p):=by have e:Ext K H ι (upd H p (.tup vs)) ι:=Loose.ext (.inl hp);exact⟨e,S.other (.inl hp) (S.fresh hp),Rep.tup (cM.of fY) (r.mono e)⟩
theorem aq.Df(S:aq K H ι M)(l0:Loose H p)(hn:ι[n]?=Ya p)(r:Zm K H ι xs vs):Ext K H ι (upd H p (.lst vs)) ι/\aq K (upd H p (.lst vs)) ι (M.set n (.lst xs)):=by have e:Ext K H ι (upd H p (.lst vs)) ι:=Loose.ext l0;exact⟨e,S.put l0 hn ⟨vs,fY,r.mono e⟩⟩
end
def bC(K:Yb)(H:Hp)(ι:List Ys)(env:Zx)(σ:St):Prop:=env.length=σ.length/\∀(i:Nat) d,env[i]?=Ya (Ya d)->∃v,σ[i]?=Ya (Ya v)/\Rep K H ι d v
variable{σ:St}
theorem bC.mono{H':Hp}{ι':List Ys}(r:bC K H ι env σ)(e:Ext K H ι H' ι'):bC K H' ι' env σ:=⟨r.1,λi d h=>let⟨v,q,z⟩:=r.2 i d h;⟨v,q,z.mono e⟩⟩
theorem bC.set(r:bC K H ι env σ)(i:Nat)(h:Rep K H ι d v):bC K H ι (env.set i (Ya d)) (σ.set i (Ya v)):=by
 refine⟨by simp[r.1],λj e hj=>?_⟩;by_cases hij:j=i
 .subst hij;have hlt:j<env.length:=by
   have:=(Yh.mp hj).1;simpa using this
  rw[jX hlt]at hj;cases hj;exact⟨v,by rw[jX (by rw[←r.1];exact hlt)],h⟩
 .rw[Yz (bT hij)]at hj;obtain⟨w,q,z⟩:=r.2 j e hj;exact⟨w,by rw[Yz (bT hij)];exact q,z⟩
def Zn(K:Yb)(H:Hp)(ι:List Ys)(Q:VK)(r:R3 D):Prop:=match r with
 | .ok d M'=>∀v H' ι',Ext K H ι H' ι'->aq K H' ι' M'->Rep K H' ι' d v->Q v H'|_=>False
inductive TOf(K:Yb)(f:E3)(σ:St)(H:Hp)(Q:VK):Prop where
 |mk (ι:List Ys) (M:Store) (env:Zx) (S:aq K H ι M) (E:bC K H ι env σ) (h:Zn K H ι Q (f env M)):TOf K f σ H Q
def kZ(K:Yb)(f:E3):TE:=λσ H Q=>TOf K f σ H Q
def pR(K:Yb)(H:Hp)(ι:List Ys)(Q:Bool->Hp->Prop)(r:R3 D):Prop:=match r with
 | .ok (.bl b) M'=>∀H' ι',Ext K H ι H' ι'->aq K H' ι' M'->Q b H'|_=>False
inductive TTf(K:Yb)(f:E3)(σ:St)(H:Hp)(Q:Bool->Hp->Prop):Prop where
 |mk (ι:List Ys) (M:Store) (env:Zx) (S:aq K H ι M) (E:bC K H ι env σ) (h:pR K H ι Q (f env M)):TTf K f σ H Q
def tTf(K:Yb)(f:E3):TT:=λσ H Q=>TTf K f σ H Q
def Bf(K:Yb)(H:Hp)(ι:List Ys)(Q:List V->Hp->Prop)(r:R3 (List D)):Prop:=match r with
 | .ok ds M'=>∀vs H' ι',Ext K H ι H' ι'->aq K H' ι' M'->Zm K H' ι' ds vs->Q vs H'|_=>False
inductive TAf(K:Yb)(f:cW)(σ:St)(H:Hp)(Q:List V->Hp->Prop):Prop where
 |mk (ι:List Ys) (M:Store) (env:Zx) (S:aq K H ι M) (E:bC K H ι env σ) (h:Bf K H ι Q (f env M)):TAf K f σ H Q
def RT(K:Yb)(f:cW):TA:=λσ H Q=>TAf K f σ H Q
def FQ(K:Yb)(H:Hp)(ι:List Ys)(Q:Option Int->Hp->Prop)(r:R3 (Option Int)):Prop:=match r with
 | .ok o M'=>∀H' ι',Ext K H ι H' ι'->aq K H' ι' M'->Q o H'|_=>False
def tOo(K:Yb)(f:yc):TO:=λσ H Q=>∃ι M env,aq K H ι M/\bC K H ι env σ/\FQ K H ι Q (f env M)
def nj(K:Yb)(H:Hp)(ι:List Ys)(E:Ends)(r:O3):Prop:=match r with
 | .nx env' M'=>∀σ' H' ι',Ext K H ι H' ι'->aq K H' ι' M'->bC K H' ι' env' σ'->E.nx σ' H'|.bk env' M'=>∀σ' H' ι',Ext K H ι H' ι'->aq K H' ι' M'->bC K H' ι' env' σ'->E.bk σ' H'|.ct env' M'=>∀σ' H' ι',Ext K H ι H' ι'->aq K H' ι' M'->bC K H' ι' env' σ'->E.ct σ' H'|.rt d M'=>∀v H' ι',Ext K H ι H' ι'->aq K H' ι' M'->Rep K H' ι' d v->E.rt v H'
 |_=>False
inductive TSf(K:Yb)(f:S3)(D:Ends)(σ:St)(H:Hp):Prop where
 |mk (ι:List Ys) (M:Store) (env:Zx) (S:aq K H ι M) (E:bC K H ι env σ) (h:nj K H ι D (f env M)):TSf K f D σ H
def tSf(K:Yb)(f:S3):TS:=λE σ H=>TSf K f E σ H
def C3(X:Cx)(e:Expr)(f:E3):Prop:=PE X e (kZ X.K f)
def CT(X:Cx)(e:Expr)(f:E3):Prop:=PT X e (tTf X.K f)
def CA(X:Cx)(es:List Expr)(f:cW):Prop:=PA X es (RT X.K f)
def CO(X:Cx)(e:Option Expr)(f:yc):Prop:=PO X e (tOo X.K f)
def CS(X:Cx)(st:Ydr)(f:S3):Prop:=PS X st (tSf X.K f)
def mj(X:Cx)(st:List Ydr)(f:S3):Prop:=iZ X st (tSf X.K f)
variable{X:Cx}{e:Expr}
theorem _root_._L2.PE.imp{t t':TE}(h:PE X e t)(i:∀σ H Q,t' σ H Q->t σ H Q):PE X e t':=λpins s σ H Q I q=>h pins s σ H Q I (i σ H Q q)
theorem _root_._L2.PT.imp{t t':TT}(h:PT X e t)(i:∀σ H Q,t' σ H Q->t σ H Q):PT X e t':=λpins s σ H Q I q=>h pins s σ H Q I (i σ H Q q)
theorem _root_._L2.PA.imp{e:List Expr}{t t':TA}(h:PA X e t)(i:∀σ H Q,t' σ H Q->t σ H Q):PA X e t':=λpos pins s σ H Q I q=>h pos pins s σ H Q I (i σ H Q q)
theorem _root_._L2.PO.imp{e:Option Expr}{t t':TO}(h:PO X e t)(i:∀σ H Q,t' σ H Q->t σ H Q):PO X e t':=λpins s σ H Q I q=>h pins s σ H Q I (i σ H Q q)
theorem _root_._L2.PS.imp{e:Ydr}{t t':TS}(h:PS X e t)(i:∀D σ H,t' D σ H->t D σ H):PS X e t':=λpins s σ H D I q=>h pins s σ H D I (i D σ H q)
theorem _root_._L2.iZ.imp{e:List Ydr}{t t':TS}(h:iZ X e t)(i:∀D σ H,t' D σ H->t D σ H):iZ X e t':=λpins s σ H D I q=>h pins s σ H D I (i D σ H q)
theorem _root_._L2.bh.imp{f:Yd->Yd->jW Yd}{r r':R2}(h:bh X f r)(i:∀x y H Q,r' x y H Q->r x y H Q):bh X f r':=λpins s σ H x y v u Q I rx ry q=>h pins s σ H x y v u Q I rx ry (i x y H Q q)
theorem _root_._L2.t_.imp{f:Yd->jW Yd}{r r':V->Hp->VK->Prop}(h:t_ X f r)(i:∀x H Q,r' x H Q->r x H Q):t_ X f r':=λpins s σ H x v Q I rx q=>h pins s σ H x v Q I rx (i x H Q q)
theorem _root_._L2.cN.imp{f:Yd}{r r':List V->Hp->VK->Prop}(h:cN X f r)(i:∀x H Q,r' x H Q->r x H Q):cN X f r':=λpins s σ H xs us Q I rx q=>h pins s σ H xs us Q I rx (i xs H Q q)
theorem _root_._L2.j_.imp{r r':R2}(h:j_ X r)(i:∀x y H Q,r' x y H Q->r x y H Q):j_ X r':=λvalue slice pins s σ H x y v u Q I rx ry q hs=>h value slice pins s σ H x y v u Q I rx ry (i x y H Q q) hs
theorem _root_._L2.jm.imp{r r':V->Option Int->Option Int->Hp->VK->Prop}(h:jm X r)(i:∀x lo hi H Q,r' x lo hi H Q->r x lo hi H Q):jm X r':=λpins s σ H x v vl vu lo hi sl Q I rx hs pl pu q=>h pins s σ H x v vl vu lo hi sl Q I rx hs pl pu (i x lo hi H Q q)
variable{r:R3 D}
section
variable {K:Yb} {H H1:Hp} {ι ι1:List Ys}
theorem Zn.up{Q:VK}(e:Ext K H ι H1 ι1)(h:Zn K H ι Q r):Zn K H1 ι1 Q r:=by
 cases r with
 |ok d M=>exactλv H' ι' e' S r=>h v H' ι' (e.trans e') S r|exc x M=>exact h|bad=>exact h
theorem pR.up{Q:Bool->Hp->Prop}(e:Ext K H ι H1 ι1)(h:pR K H ι Q r):pR K H1 ι1 Q r:=by
 cases r with
 |ok d M=>cases d<;>first|exact h|exactλH' ι' e' S=>h H' ι' (e.trans e') S
 |exc x M=>exact h|bad=>exact h
theorem nj.up{Q:Ends}{r:O3}(e:Ext K H ι H1 ι1)(h:nj K H ι Q r):nj K H1 ι1 Q r:=by
 cases r with
 |nx d M=>exactλv H' ι' e' S r=>h v H' ι' (e.trans e') S r|bk d M=>exactλv H' ι' e' S r=>h v H' ι' (e.trans e') S r|ct d M=>exactλv H' ι' e' S r=>h v H' ι' (e.trans e') S r|rt d M=>exactλv H' ι' e' S r=>h v H' ι' (e.trans e') S r
 |exc x M=>exact h|bad=>exact h
theorem Zn.ok{Q:VK}(h:Zn K H ι Q (.ok d M))(S:aq K H ι M)(r:Rep K H ι d v):Q v H:=h v H ι Ext.refl S r
theorem Zn.bind{Q:VK}{r:R3 α}{k:α->Store->R3 D}(h:Zn K H ι Q (r.bind k)):∃a M,r= .ok a M/\Zn K H ι Q (k a M):=by
 cases r with
 |ok a M=>exact⟨a,M,rfl,h⟩|exc x M=>exact h.elim|bad=>exact h.elim
theorem Bf.bind{Q:List V->Hp->Prop}{r:R3 α}{k:α->Store->R3 (List D)}(h:Bf K H ι Q (r.bind k)):∃a M,r= .ok a M/\Bf K H ι Q (k a M):=by
 cases r with
 |ok a M=>exact⟨a,M,rfl,h⟩|exc x M=>exact h.elim|bad=>exact h.elim
theorem FQ.bind{Q:Option Int->Hp->Prop}{r:R3 α}{k:α->Store->R3 (Option Int)}(h:FQ K H ι Q (r.bind k)):∃a M,r= .ok a M/\FQ K H ι Q (k a M):=by
 cases r with
 |ok a M=>exact⟨a,M,rfl,h⟩|exc x M=>exact h.elim|bad=>exact h.elim
theorem pR.bind{Q:Bool->Hp->Prop}{r:R3 α}{k:α->Store->R3 D}(h:pR K H ι Q (r.bind k)):∃a M,r= .ok a M/\pR K H ι Q (k a M):=by
 cases r with
 |ok a M=>exact⟨a,M,rfl,h⟩|exc x M=>exact h.elim|bad=>exact h.elim
end
inductive R2I(K:Yb)(op:D->D->Store->R3 D)(x y:V)(H:Hp)(Q:VK):Prop where
 |mk (ι:List Ys) (M:Store) (a b:D) (S:aq K H ι M) (ra:Rep K H ι a x) (rb:Rep K H ι b y) (h:Zn K H ι Q (op a b M)):R2I K op x y H Q
def r2(K:Yb)(op:D->D->Store->R3 D):R2:=λx y H Q=>R2I K op x y H Q
noncomputable def r1(K:Yb)(op:D->Store->R3 D):V->Hp->VK->Prop:=λx H Q=>∃ι M a,aq K H ι M/\Rep K H ι a x/\Zn K H ι Q (op a M)
inductive RBI(K:Yb)(b:List D->Store->R3 D)(xs:List V)(H:Hp)(Q:VK):Prop where
 |mk (ι:List Ys) (M:Store) (ds:List D) (S:aq K H ι M) (r:Zm K H ι ds xs) (h:Zn K H ι Q (b ds M)):RBI K b xs H Q
noncomputable def rB(K:Yb)(b:List D->Store->R3 D):List V->Hp->VK->Prop:=λxs H Q=>RBI K b xs H Q
noncomputable def rM(K:Yb)(m:D->List D->Store->R3 D):V->List V->Hp->VK->Prop:=λx xs H Q=>∃ι M a ds,aq K H ι M/\Rep K H ι a x/\Zm K H ι ds xs/\Zn K H ι Q (m a ds M)
noncomputable def rS(K:Yb):V->Option Int->Option Int->Hp->VK->Prop:=λx lo hi H Q=>∃ι M a,aq K H ι M/\Rep K H ι a x/\Zn K H ι Q (Ao a lo hi M)
theorem Kc{op:D->D->Store->R3 D}{g:E3}(σ:St)(H:Hp)(Q:VK)(h:kZ K (e2 op f g) σ H Q):Af (r2 K op) (kZ K f) (kZ K g) σ H Q:=by obtain⟨ι,M,env,S,E,h⟩:=h;obtain⟨a,M1,e1,h⟩:=Zn.bind h;obtain⟨b,M2,e2,h⟩:=Zn.bind h;refine⟨ι,M,env,S,E,?_⟩;rw[e1];intro v H1 ι1 x1 S1 r1;refine⟨ι1,M1,env,S1,E.mono x1,?_⟩;rw[e2];intro u H2 ι2 x2 S2 r2;exact⟨ι2,M2,a,b,S2,r1.mono x2,r2,(h.up x1).up x2⟩
theorem Zvf{op:D->Store->R3 D}(σ:St)(H:Hp)(Q:VK)(h:kZ K (e1 op f) σ H Q):tUn (r1 K op) (kZ K f) σ H Q:=by obtain⟨ι,M,env,S,E,h⟩:=h;obtain⟨a,M1,e1,h⟩:=Zn.bind h;refine⟨ι,M,env,S,E,?_⟩;rw[e1];intro v H1 ι1 x1 S1 r1;exact⟨ι1,M1,a,S1,r1,h.up x1⟩
variable{u:Yd}
section
variable {X:Cx} {a b c e o:Expr} {es:List Expr} {pos p:aP} {f g h:E3} {gl:cW}
theorem Zd(i:Nat){x:aj}(hN:autoParam (X.N[i]?=Ya x) qA)(hv:JD X.env.scope x:=by first|exact Or.inl rfl|exact Or.inr (Or.inl rfl)|exact Or.inr (Or.inr rfl))(hd:autoParam ((x==("__debug__":aj))=false) qB)(hcd:autoParam ((x==("__classdict__":aj))=false) qB):C3 X (.Name x pos) (Za i):=(Er hN hv hd hcd).imp λσ H Q ak=>by
 obtain⟨ι,M,env,S,E,h⟩:=ak;unfold Za at h;cases q:env[i]? with
 |none=>rw[q]at h;exact h.elim|some od=>
  cases od with
  |none=>rw[q]at h;exact h.elim|some d=>rw[q]at h;obtain⟨v,e1,r⟩:=E.2 i d q;exact⟨v,e1,Zn.ok h S r⟩
theorem Zt{i j}:C3 X (.Constant (.int i) j pos) (eC (.int i)):=QQ.imp λσ H Q ⟨ι,M,env,S,E,h⟩=>Zn.ok h S Rep.int
theorem FT{i j}:C3 X (.Constant (.bool i) j pos) (eC (.bl i)):=Zw3.imp λσ H Q ⟨ι,M,env,S,E,h⟩=>Zn.ok h S Rep.bl
theorem nq{j}:C3 X (.Constant .none j pos) (eC .non):=Zu3.imp λσ H Q ⟨ι,M,env,S,E,h⟩=>Zn.ok h S Rep.non
theorem bw{x:aj}{cs:List Nat}{j}(hx:x=⟨cs.toArray⟩:=by decide +kernel):C3 X (.Constant (.str x) j pos) (eC (.str cs)):=QR.imp λσ H Q ak=>by obtain⟨ι,M,env,S,E,h⟩:=ak;subst hx;exact Zn.ok h S Rep.str
theorem ur{x:aj}(hm:X.mg x=Ya u)(r:RelV v u)(hr:∀H ι,Rep X.K H ι d v)(hg:autoParam (Gl X x) qA)(hd:autoParam ((x==("__debug__":aj))=false) qB):C3 X (.Name x pos) (eC d):=(Ad hg hm r hd).imp λσ H Q ⟨ι,M,env,S,E,h⟩=>Zn.ok h S (hr H ι)
theorem dg{op:Operator}{q:D->D->Store->R3 D}(ho:bh X (jU op) (r2 X.K q))(ha:C3 X a f)(hb:C3 X b g):C3 X (.BinOp a op b pos) (e2 q f g):=(Zv6 ho ha hb).imp Kc
theorem oX{op:UnaryOp}{q:D->Store->R3 D}(ho:t_ X (Ih op) (r1 X.K q))(ha:C3 X a f):C3 X (.UnaryOp op a pos) (e1 q f):=(Zxj ho ha).imp Zvf
theorem k_{op:CmpOp}{q:D->D->Store->R3 D}(ho:bh X (fX op) (r2 X.K q))(ha:C3 X a f)(hb:C3 X b g)(hm:autoParam (w6 op b=false) qA):C3 X (.Compare a [op] [b] pos) (e2 q f g):=(Zn5 ho ha hb hm).imp Kc
theorem Kd{Q:Bool->Hp->Prop}(h:pR K H ι Q r):Zn K H ι (λx H'=>∃k,x= .bl k/\Q k H') r:=by
 cases r with
 |ok d M=>
  cases d with
  |bl b=>exactλv H' ι' e S r=>⟨b,r.gC,h H' ι' e S⟩|_=>exact h.elim
 |exc x M=>exact h.elim|bad=>exact h.elim
theorem mq(h:C3 X e f)(he:∀whole,isTrue e X.env whole=(do let v ←whole;Ig e.pos;holding [v] (truthy v)):=by intro _;rfl):CT X e f:=(Zvh h he).imp λσ H Q ⟨ι,M,env,S,E,h⟩=>⟨ι,M,env,S,E,Kd h⟩
theorem bA{op:CmpOp}{q:D->D->Store->R3 D}(ho:bh X (fX op) (r2 X.K q))(ha:C3 X a f)(hb:C3 X b g)(hm:autoParam (w6 op b=false) qA):CT X (.Compare a [op] [b] pos) (e2 q f g):=(Q6 ho ha hb hm).imp λσ H Q ⟨ι,M,env,S,E,h⟩=>Kc σ H _ ⟨ι,M,env,S,E,Kd h⟩
end
variable{st:Ydr}{q:List D->Store->R3 D}
section
variable {X:Cx} {a b c e o:Expr} {es rest:List Expr} {pos p:aP} {f g h:E3} {gl:cW}
theorem vY{op}(h:C3 X a f):C3 X (.BoolOp op [a] pos) f:=Zuq h
theorem vZ(ha:C3 X a f)(hb:C3 X (.BoolOp .And (b::rest) pos) g):C3 X (.BoolOp .And (a::b::rest) pos) (eO f g):=(ZtM ha hb).imp λσ H Q ak=>by
 obtain⟨ι,M,env,S,E,h⟩:=ak;obtain⟨d,M1,e1,h⟩:=Zn.bind h;refine⟨ι,M,env,S,E,?_⟩;rw[e1];intro v H1 ι1 x1 S1 r1;cases d with
 |bl k=>
  refine⟨k,r1.gC,?_⟩;cases k with
  |true=>rw[if_pos rfl];exact⟨ι1,M1,env,S1,E.mono x1,h.up x1⟩|false=>rw[if_neg (by decide)];exact Zn.ok (h.up x1) S1 Rep.bl
 |_=>exact h.elim
theorem ZwQ(ha:C3 X a f)(hb:C3 X (.BoolOp .Or (b::rest) pos) g):C3 X (.BoolOp .Or (a::b::rest) pos) (dz f g):=(Zw7 ha hb).imp λσ H Q ak=>by
 obtain⟨ι,M,env,S,E,h⟩:=ak;obtain⟨d,M1,e1,h⟩:=Zn.bind h;refine⟨ι,M,env,S,E,?_⟩;rw[e1];intro v H1 ι1 x1 S1 r1;cases d with
 |bl k=>
  refine⟨k,r1.gC,?_⟩;cases k with
  |false=>rw[if_neg (by decide)];exact⟨ι1,M1,env,S1,E.mono x1,h.up x1⟩|true=>rw[if_pos rfl];exact Zn.ok (h.up x1) S1 Rep.bl
 |_=>exact h.elim
theorem ZtI(ha:C3 X a f):C3 X (.UnaryOp .Not a pos) (e1 lX f):=(Zvl ha).imp λσ H Q ak=>by
 obtain⟨ι,M,env,S,E,h⟩:=ak;obtain⟨d,M1,e1,h⟩:=Zn.bind h;refine⟨ι,M,env,S,E,?_⟩;rw[e1];intro v H1 ι1 x1 S1 r1;cases d with
 |bl k=>exact⟨k,r1.gC,Zn.ok (h.up x1) S1 Rep.bl⟩|_=>exact h.elim
def CW(X:Cx)(e:Expr)(f:E3):Prop:=PW X e (tTf X.K f)
theorem CW.ct(h:CW X e f):CT X e f:=PW.pt h
theorem PW.imp{t t':TT}(h:PW X e t)(i:∀σ H Q,t' σ H Q->t σ H Q):PW X e t':=λwh pins s σ H Q I q=>h wh pins s σ H Q I (i σ H Q q)
theorem Bg(ha:CT X a f):CW X (.BoolOp .And [a] pos) f:=ZsM ha
theorem ut(ha:CT X a f):CW X (.BoolOp .Or [a] pos) f:=ZuK ha
theorem yt(ha:CT X a f)(hb:CW X (.BoolOp .And (b::rest) pos) g):CW X (.BoolOp .And (a::b::rest) pos) (eO f g):=PW.imp (ZuI ha hb) λσ H Q ak=>by
 obtain⟨ι,M,env,S,E,h⟩:=ak;obtain⟨d,M1,e1,h⟩:=pR.bind h;refine⟨ι,M,env,S,E,?_⟩;rw[e1];cases d with
 |bl k=>
  intro H1 ι1 x1 S1;cases k with
  |true=>rw[if_pos rfl];exact⟨ι1,M1,env,S1,E.mono x1,h.up x1⟩|false=>rw[if_neg (by decide)];exact h H1 ι1 x1 S1
 |_=>exact h.elim
theorem oY(ha:CT X a f)(hb:CW X (.BoolOp .Or (b::rest) pos) g):CW X (.BoolOp .Or (a::b::rest) pos) (dz f g):=PW.imp (Zw4 ha hb) λσ H Q ak=>by
 obtain⟨ι,M,env,S,E,h⟩:=ak;obtain⟨d,M1,e1,h⟩:=pR.bind h;refine⟨ι,M,env,S,E,?_⟩;rw[e1];cases d with
 |bl k=>
  intro H1 ι1 x1 S1;cases k with
  |false=>rw[if_neg (by decide)];exact⟨ι1,M1,env,S1,E.mono x1,h.up x1⟩|true=>rw[if_pos rfl];exact h H1 ι1 x1 S1
 |_=>exact h.elim
theorem Bh(ha:CT X a f):CT X (.UnaryOp .Not a pos) (e1 lX f):=(Zt9 ha).imp λσ H Q ak=>by
 obtain⟨ι,M,env,S,E,h⟩:=ak;obtain⟨d,M1,e1,h⟩:=pR.bind h;refine⟨ι,M,env,S,E,?_⟩;rw[e1];cases d with
 |bl k=>exactλH1 ι1 x1 S1=>h H1 ι1 x1 S1|_=>exact h.elim
theorem FW(hc:CT X c f)(ha:C3 X a g)(hb:C3 X b h):C3 X (.IfExp c a b pos) (jL f g h):=(Zqo hc ha hb).imp λσ H Q ak=>by
 obtain⟨ι,M,env,S,E,h⟩:=ak;obtain⟨d,M1,e1,h⟩:=Zn.bind h;refine⟨ι,M,env,S,E,?_⟩;rw[e1];cases d with
 |bl k=>
  intro H1 ι1 x1 S1;cases k with
  |true=>rw[if_pos rfl];exact⟨ι1,M1,env,S1,E.mono x1,h.up x1⟩|false=>rw[if_neg (by decide)];exact⟨ι1,M1,env,S1,E.mono x1,h.up x1⟩
 |_=>exact h.elim
theorem Zf:CA X [] Zg:=xY.imp λσ H Q ⟨ι,M,env,S,E,h⟩=>h [] H ι Ext.refl S Zm.nil
theorem Zc(ha:C3 X e f)(hr:CA X es gl)(hs:autoParam (Yq (e::es) X.env=(false,aF e X.env)::Yq es X.env) qA):CA X (e::es) (Zb f gl):=(oJ ha hr hs).imp λσ H Q ak=>by obtain⟨ι,M,env,S,E,h⟩:=ak;obtain⟨d,M1,e1,h⟩:=Bf.bind h;obtain⟨ds,M2,e2,h⟩:=Bf.bind h;refine⟨ι,M,env,S,E,?_⟩;rw[e1];intro v H1 ι1 x1 S1 r1;refine⟨ι1,M1,env,S1,E.mono x1,?_⟩;rw[e2];intro vs H2 ι2 x2 S2 r2;exact h (v::vs) H2 ι2 (x1.trans x2) S2 (Zm.cons (r1.mono x2) r2)
theorem pU{x1}(h:CA X es gl):C3 X (.Tuple es x1 pos) (jb gl):=(Q_ h).imp λσ H Q ak=>by
 obtain⟨ι,M,env,S,E,h⟩:=ak;obtain⟨ds,M1,e1,h⟩:=Zn.bind h;refine⟨ι,M,env,S,E,?_⟩;rw[e1];intro vs H1 ι1 x1 S1 r1;by_cases hz:ds.length<=SZ
 .rw[if_pos hz]at h;refine⟨by rw[r1.length];exact Yp hz l_,λp hp=>?_⟩;obtain⟨x2,S2,r2⟩:=S1.tE hp r1;exact h _ _ _ (x1.trans x2) S2 r2
 .rw[if_neg hz]at h;exact h.elim
theorem gw(h:CA X es gl):C3 X (.List es pos) (b_ gl):=(Zvv h).imp λσ H Q ak=>by
 obtain⟨ι,M,env,S,E,h⟩:=ak;obtain⟨ds,M1,e1,h⟩:=Zn.bind h;refine⟨ι,M,env,S,E,?_⟩;rw[e1];intro vs H1 ι1 x1 S1 r1;by_cases hz:ds.length<=SZ
 .rw[if_pos hz]at h;refine⟨by rw[r1.length];exact Yp hz l_,λp hp=>?_⟩;obtain⟨x2,S2,r2⟩:=S1.lst hp r1;exact h _ _ _ (x1.trans x2) S2 r2
 .rw[if_neg hz]at h;exact h.elim
theorem ZqP(σ:St)(H:Hp)(Q:VK)(h:kZ K (aG q gl) σ H Q):Eu (rB K q) (RT K gl) σ H Q:=by obtain⟨ι,M,env,S,E,h⟩:=h;obtain⟨ds,M1,e1,h⟩:=Zn.bind h;refine⟨ι,M,env,S,E,?_⟩;rw[e1];intro vs H1 ι1 x1 S1 r1;exact⟨ι1,M1,ds,S1,r1,h.up x1⟩
theorem dh{x:aj}{id:String}(hc:cN X (.builtin id) (rB X.K q))(hm:X.mg x=Yj)(hv:jr x=Ya (.builtin id))(ha:CA X (e::es) gl)(hg:autoParam (Gl X x) qA)(hn:autoParam (x≠ "__name__") qB)(hdb:autoParam ((x==("__debug__":aj))=false) qB)(he:autoParam (Yq (e::es) X.env=(false,aF e X.env)::Yq es X.env) qA)(hpl:autoParam ((bK pos (Yq es X.env)).any (·.1)=false) qA):C3 X (.Call (.Name x p) (e::es) [] pos) (aG q gl):=(JP hc hg hm hv ha hn hdb he hpl).imp ZqP
theorem lq{x:aj}{T:String}(hc:cN X (.type T) (rB X.K q))(hm:X.mg x=Yj)(hv:jr x=Ya (.type T))(ha:CA X (e::es) gl)(hg:autoParam (Gl X x) qA)(hn:autoParam (x≠ "__name__") qB)(hdb:autoParam ((x==("__debug__":aj))=false) qB)(he:autoParam (Yq (e::es) X.env=(false,aF e X.env)::Yq es X.env) qA)(hpl:autoParam ((bK pos (Yq es X.env)).any (·.1)=false) qA):C3 X (.Call (.Name x p) (e::es) [] pos) (aG q gl):=(ZjR hc hg hm hv ha hn hdb he hpl).imp ZqP
theorem cg(hr:j_ X (r2 X.K Zz))(ha:C3 X a f)(hb:C3 X b g)(hs:ZnS b:=by exactλ_ _=>rfl):C3 X (.Subscript a b pos) (e2 Zz f g):=(ZwJ hr ha hb hs).imp Kc
theorem rQ:CO X Yj gJ:=Zso.imp λσ H Q ⟨ι,M,env,S,E,h⟩=>h H ι Ext.refl S
theorem jq(h:C3 X e f):CO X (Ya e) (bQ f):=(ZsI h).imp λσ H Q ak=>by
 obtain⟨ι,M,env,S,E,h⟩:=ak;obtain⟨d,M1,e1,h⟩:=FQ.bind h;refine⟨ι,M,env,S,E,?_⟩;rw[e1];intro v H1 ι1 x1 S1 r1;cases d with
 |int i=>exact⟨i,r1.int_inv,h H1 ι1 x1 S1⟩|_=>exact h.elim
theorem mz{lo hi:Option Expr}{ol oh:yc}{p2:aP}(hr:jm X (rS X.K))(he:C3 X e f)(hl:CO X lo ol)(hu:CO X hi oh):C3 X (.Subscript e (.Slice lo hi Yj p2) pos) (dD f ol oh):=(Zqz hr he hl hu).imp λσ H Q ak=>by obtain⟨ι,M,env,S,E,h⟩:=ak;obtain⟨d,M1,e1,h⟩:=Zn.bind h;obtain⟨l,M2,e2,h⟩:=Zn.bind h;obtain⟨u,M3,e3,h⟩:=Zn.bind h;refine⟨ι,M,env,S,E,?_⟩;rw[e1];intro v H1 ι1 x1 S1 r1;refine⟨ι1,M1,env,S1,E.mono x1,?_⟩;rw[e2];intro H2 ι2 x2 S2;refine⟨ι2,M2,env,S2,(E.mono x1).mono x2,?_⟩;rw[e3];intro H3 ι3 x3 S3;exact⟨ι3,M3,d,S3,(r1.mono x2).mono x3,((h.up x1).up x2).up x3⟩
theorem bR:mj X [] aY:=Zr4.imp λD σ H ⟨ι,M,env,S,E,h⟩=>h σ H ι Ext.refl S E
theorem Zk{u:S3}(h:CS X st u):mj X [st] u:=QW h
theorem Zi{sts:List Ydr}{u w:S3}(h1:CS X st u)(h2:mj X sts w):mj X (st::sts) (Zw u w):=(QV h1 h2).imp λD σ H ak=>by
 obtain⟨ι,M,env,S,E,h⟩:=ak;refine⟨ι,M,env,S,E,?_⟩;have h':nj X.K H ι D (match u env M with| .nx env' M'=>w env' M'|o=>o):=h;cases q:u env M with
 |nx env' M'=>rw[q]at h';exactλσ' H' ι' x S' E'=>⟨ι',M',env',S',E',h'.up x⟩|_=>rw[q]at h';exact h'
theorem bW{c1:Expr}{x y:List Ydr}{u w:S3}(hc:CT X c1 f)(ha:mj X x u)(hb:mj X y w):CS X (.If c1 x y pos) (aK f u w):=(ZtF hc ha hb).imp λD σ H ak=>by
 obtain⟨ι,M,env,S,E,h⟩:=ak;refine⟨ι,M,env,S,E,?_⟩;unfold aK at h;cases q:f env M with
 | ok d M1=>
  rw[q]at h;cases d with
  |bl k=>
   intro H1 ι1 x1 S1;cases k with
   |true=>rw[if_pos rfl];exact⟨ι1,M1,env,S1,E.mono x1,h.up x1⟩|false=>rw[if_neg (by decide)];exact⟨ι1,M1,env,S1,E.mono x1,h.up x1⟩
  |_=>exact h.elim
 |exc x M1=>rw[q]at h;exact h.elim|bad=>rw[q]at h;exact h.elim
theorem bH(h:C3 X e f):CS X (.Return (Ya e) pos) (aX f):=(ZpZ h).imp λD σ H ak=>by
 obtain⟨ι,M,env,S,E,h⟩:=ak;refine⟨ι,M,env,S,E,?_⟩;unfold aX at h;cases q:f env M with
 |ok d M1=>rw[q]at h;exact h|exc x M1=>rw[q]at h;exact h.elim|bad=>rw[q]at h;exact h.elim
theorem mC(h:C3 X e f)(hs:autoParam (tR e Yj pos.line X.env=pure false) qA):CS X (.Expr e pos) (bV f):=(ZnT h hs).imp λD σ H ak=>by
 obtain⟨ι,M,env,S,E,h⟩:=ak;refine⟨ι,M,env,S,E,?_⟩;unfold bV at h;cases q:f env M with
 |ok d M1=>rw[q]at h;exactλv H1 ι1 x1 S1 r1=>h σ H1 ι1 x1 S1 (E.mono x1)|exc x M1=>rw[q]at h;exact h.elim|bad=>rw[q]at h;exact h.elim
theorem bO(i:Nat){x:aj}{pos':aP}(hN:X.N.Nodup)(he:C3 X e f)(hi:autoParam (X.N[i]?=Ya x) qA)(hx:Loc X.env.scope x:=by first|exact Or.inl rfl|exact Or.inr rfl)(hs:autoParam (tR e (Ya (.Name x pos')) pos.line X.env=pure false) qA)(hf:X.fn x=true\/X.env.scope.names.lookup x=Ya .local:=by first|exact .inl rfl|exact .inr rfl):CS X (.Assign [.Name x pos'] e pos) (aJ i f):=(Zrs hN hi hx he hs hf).imp λD σ H ak=>by
 obtain⟨ι,M,env,S,E,h⟩:=ak;refine⟨ι,M,env,S,E,?_⟩;unfold aJ at h;cases q:f env M with
 |ok d M1=>rw[q]at h;exactλv H1 ι1 x1 S1 r1=>h _ H1 ι1 x1 S1 ((E.mono x1).set i r1)|exc x M1=>rw[q]at h;exact h.elim|bad=>rw[q]at h;exact h.elim
end
noncomputable def rR(K:Yb)(n:Nat)(F:F3):Sp:=λvs H Q _=>∃ι M ds,aq K H ι M/\Zm K H ι ds vs/\ds.length=n/\Zn K H ι Q (F ds M)
section
variable {K:Yb} {H H':Hp} {ι ι':List Ys} {M M':Store}
mutual
theorem Rep.below:∀{d:D} {v:V},Rep K H ι d v->_L3.below ι.length d=true
 | .non,_,_=>rfl|.bl _,_,_=>rfl|.int _,_,_=>rfl|.str _,_,_=>rfl
 | .tup ds,_,h=>by obtain⟨a,vs,_,_,r⟩:=h.jk;exact Zm.bJ (ds:=ds) r|.a_ ds,_,h=>by obtain⟨a,vs,_,_,r⟩:=h.uW;exact Zm.bJ (ds:=ds) r|.ref n,_,h=>by obtain⟨a,q,_⟩:=h.e_;exact decide_eq_true (Yh.mp q).1
theorem Zm.bJ:∀{ds:List D} {vs:List V},Zm K H ι ds vs->_L3.bJ ι.length ds=true
 |[],_,_=>rfl|d::ds,_,h=>by obtain⟨v,ws,_,r,q⟩:=h.cons_inv;exact vJ.mpr ⟨Rep.below (d:=d) r,Zm.bJ (ds:=ds) q⟩
end
mutual
theorem Rep.cut{n:Nat}:∀{d:D} {v:V},_L3.below n d=true->Rep K H ι d v->Rep K H (ι.take n) d v
 | .non,_,_,h=>h|.bl _,_,_,h=>h|.int _,_,_,h=>h|.str _,_,_,h=>h
 | .tup ds,_,hb,h=>by obtain⟨a,vs,rfl,s,r⟩:=h.jk;exact Rep.tup s (Zm.cut (ds:=ds) hb r)|.a_ ds,_,hb,h=>by obtain⟨a,vs,rfl,s,r⟩:=h.uW;exact⟨a,vs,rfl,s,Zm.cut (ds:=ds) hb r⟩|.ref k,_,hb,h=>by obtain⟨a,q,rfl⟩:=h.e_;refine Rep.ref ?_;rw[vA (of_decide_eq_true hb)];exact q
theorem Zm.cut{n:Nat}:∀{ds:List D} {vs:List V},_L3.bJ n ds=true->Zm K H ι ds vs->Zm K H (ι.take n) ds vs
 |[],_,_,h=>h|d::ds,_,hb,h=>by obtain⟨v,ws,rfl,r,q⟩:=h.cons_inv;exact have w:=vJ.mp (hb:(_L3.below n d&&_L3.bJ n ds)=true);Zm.cons (Rep.cut (d:=d) w.1 r) (Zm.cut (ds:=ds) w.2 q)
end
theorem kY.below{a:Ys}(h:kY K H ι m a):vV ι.length m=true:=by
 cases m with
 |lst xs=>obtain⟨vs,_,r⟩:=h;exact r.bJ|dct kvs=>obtain⟨ws,_,_,r⟩:=h;exact r.bJ|cV kvs=>obtain⟨ws,_,_,r⟩:=h;exact r.bJ|ins c fs=>
  rcases h with⟨_,_,gs,_,_,_,r⟩|⟨_,_,_,_,_,rfl|⟨_,_,_,_,_,_,r⟩⟩
  .exact r.bJ
  .rfl
  .exact r.bJ
theorem kY.cut{a:Ys}(hb:vV n m=true)(h:kY K H ι m a):kY K H (ι.take n) m a:=by
 cases m with
 |lst xs=>obtain⟨vs,q,r⟩:=h;exact⟨vs,q,r.cut hb⟩|dct kvs=>obtain⟨ws,q,r1,r2⟩:=h;exact⟨ws,q,r1,r2.cut hb⟩|cV kvs=>obtain⟨ws,q,r1,r2⟩:=h;exact⟨ws,q,r1,r2.cut hb⟩|ins c fs=>
  rcases h with⟨C,dx,gs,q,c,r1,r2⟩|⟨C,dd,q,z,c,h|⟨dx,o,gs,e,f,r1,r2⟩⟩
  .exact .inl ⟨C,dx,gs,q,c,r1,r2.cut hb⟩
  .exact .inr ⟨C,dd,q,z,c,.inl h⟩
  .exact .inr ⟨C,dd,q,z,c,.inr ⟨dx,o,gs,e,f,r1,r2.cut hb⟩⟩
theorem aq.cut(S:aq K H ι M)(h:(M.take n).all (vV n)=true):aq K H (ι.take n) (M.take n):=by
 refine⟨by simp[S.len],S.nd.sublist (Xy _ _),λk m a h1 h2=>?_⟩;have hk:k<n:=by have:=(Yh.mp h1).1;rw[xu]at this;exact Y6 this (Nat.min_le_left _ _)
 have hb:vV n m=true:=gO.mp h m (zN h1);rw[vA hk]at h1 h2;exact(S.obj k m a h1 h2).cut hb
theorem RV{Q:VK}(S:aq K H ι M)(x:Ext K H ι H' ι')(S':aq K H' ι' M')(r:Rep K H' ι' d v)(h:Zn K H ι Q (dG M d M')):Q v H':=by
 unfold dG at h;split at h
 .rename_i c;simp only[Y5,Py,decide_eq_true_eq]at c;have hall:(M'.take M.length).all (vV M.length)=true:=by
   rcases c.2 with e|e
   .rw[e,gO];intro m hm;obtain⟨n,hn⟩:=Ir hm;obtain⟨a,q,w⟩:=S.at hn;rw[←S.len];exact w.below
   .exact e
  refine h v H' (ι'.take M.length) ⟨x.tup,x.a_,λn a q=>?_,x.b7⟩ (S'.cut hall) (r.cut c.1);rw[vA (by rw[←S.len];exact(Yh.mp q).1)];exact x.pre n a q
 .exact h v H' ι' x S' r
end
theorem bC.start(r:Zm K H ι ds vs)(n:Nat):bC K H ι (ds.map Ya++Y2 n Yj) (vs.map Ya++Y2 n Yj):=by
 refine⟨by simp[r.length],λi d h=>?_⟩;by_cases hi:i<ds.length
 .rw[Y3 (by simpa using hi),ou]at h;cases q:ds[i]? with
  |none=>rw[q]at h;simp at h|some d'=>rw[q]at h;simp at h;subst h;obtain⟨v,e,z⟩:=r.get q;refine⟨v,?_,z⟩;rw[Y3 (by simpa[r.length]using hi),ou,e];rfl
 .rw[xr (by simpa using hi),Il]at h;split at h<;>simp at h
variable{ps:List aj}
section
variable {P:aZ} {w:aU} {K:Yb} {mg:aj->Option Yd} {base:au}
theorem RW{x qual:aj}{f:Ys}{fd:jl}{N:List aj}{k:Nat}(F:oK K x qual st f fd)(S:dw N ps (Zh st))(hb:∀(cdv:Yd) (A:bj) (outer:List cH) (s:Yf) (H:Hp) (E:XK),cD k (A.deeper (j7 qual (Zh st) s.heap.objs.size f cdv))->mj (mZ jK P w K mg base N qual (Zh st) f cdv A outer s H E).iu (bU st) body):
  fM P w K mg base jK (k+1) f fd ps (rR K ps.length (bL ps.length N.length body)):=by
 refine F.ok S (λvs H Q E ⟨ι,M,ds,_,r,l,_⟩=>by rw[r.length,l]) λcdv A outer s H vs Q E hr ak=>?_;obtain⟨ι,M,ds,SR,r,l,h⟩:=ak;refine⟨_,hb cdv A outer s H E hr,ι,M,ds.map Ya++Y2 (N.length-ps.length) Yj,SR,?_,?_⟩
 .have e:_L2.start N vs=vs.map Ya++Y2 (N.length-ps.length) Yj:=by unfold _L2.start;rw[r.length,l]
  rw[e];exact bC.start r _
 .unfold bL at h;rw[if_pos l]at h;cases q:body (ds.map Ya++Y2 (N.length-ps.length) Yj) M with
  |nx env' M'=>rw[q]at h;exactλσ' H' ι' x S' E'=>RV SR x S' Rep.non h|rt d M'=>rw[q]at h;exactλv H' ι' x S' r'=>RV SR x S' r' h|bk _ _=>rw[q]at h;exact h.elim|ct _ _=>rw[q]at h;exact h.elim
  |exc _ _=>rw[q]at h;exact h.elim|bad=>rw[q]at h;exact h.elim
def aW(P:aZ)(w:aU)(K:Yb)(mg:aj->Option Yd)(base:au)(k:Nat)(x:aj)(ps:List aj)(F:F3):Prop:=(∀ds M,ds.length≠ps.length->F ds M= .bad)/\∃f fd,mg x=Ya (.ref f)/\pB K (.ref f)=true/\Binds K fd ps []/\fM P w K mg base jK k f fd ps (rR K ps.length F)
def bM(K:Yb)(mg:aj->Option Yd)(x:aj)(st:Ydr)(ps:List aj):Prop:=∃f fd,oK K x x st f fd/\mg x=Ya (.ref f)/\Binds K fd ps []
theorem aW.mono{j k:Nat}{x:aj}{F:F3}(h:aW P w K mg base j x ps F)(l:j<=k):aW P w K mg base k x ps F:=let⟨n,f,fd,a,b,c,d⟩:=h;⟨n,f,fd,a,b,c,d.mono l⟩
theorem aW.of{x:aj}{N:List aj}{k:Nat}(d:bM K mg x st ps)(S:dw N ps (Zh st))(hb:∀(f:Ys) (cdv:Yd) (A:bj) (outer:List cH) (s:Yf) (H:Hp) (E:XK),cD k (A.deeper (j7 x (Zh st) s.heap.objs.size f cdv))->mj (mZ jK P w K mg base N x (Zh st) f cdv A outer s H E).iu (bU st) body):
  aW P w K mg base (k+1) x ps (bL ps.length N.length body):=by
 obtain⟨f,fd,F,m,bi⟩:=d;exact⟨λds M h=>if_neg h,f,fd,m,F.kp,bi,RW F S (hb f)⟩
end
section
variable {X:Cx} {e:Expr} {es:List Expr} {pos p:aP} {gl:cW} {x:aj} {k:Nat} {ps:List aj} {F:F3}
theorem fH(G:aW X.prog X.w X.K X.mg X.base k x ps F)(hr:cD k X.A)(ha:CA X (e::es) gl)(hg:autoParam (Gl X x) qA)(hdb:autoParam ((x==("__debug__":aj))=false) qB)(he:autoParam (Yq (e::es) X.env=(false,aF e X.env)::Yq es X.env) qA)(hpl:autoParam ((bK pos (Yq es X.env)).any (·.1)=false) qA):C3 X (.Call (.Name x p) (e::es) [] pos) (bf F gl):=by
 obtain⟨hn,f,fd,m,kp,bi,ok⟩:=G;refine(Zse ok hr hg m kp bi .nil Ztw ha hdb he hpl).imp λσ H Q ak=>?_;obtain⟨ι,M,env,S,E,h⟩:=ak;obtain⟨ds,M1,e1,h⟩:=Zn.bind h;refine⟨ι,M,env,S,E,?_⟩;rw[e1];intro vs H1 ι1 x1 S1 r1;have hl:ds.length=ps.length:=by refine Jo λq=>?_;rw[hn ds M1 q]at h;exact h.elim
 exact⟨ι1,M1,ds,S1,by rw[iD];exact r1,hl,h.up x1⟩
end
def tGf(K:Yb)(g:G3):TG:=λv σ H Q=>∃ι M env d env',aq K H ι M/\bC K H ι env σ/\Rep K H ι d v/\g d env=Ya env'/\∀σ',bC K H ι env' σ'->Q σ' H
def tGs(K:Yb)(is:List Nat):t7:=λvs σ H Q=>∃ι M env ds env',aq K H ι M/\bC K H ι env σ/\Zm K H ι ds vs/\bindAll is ds env=Ya env'/\∀σ',bC K H ι env' σ'->Q σ' H
def CG(X:Cx)(tg:Expr)(g:G3):Prop:=PG X tg (tGf X.K g)
def Ke(X:Cx)(tg:List Expr)(is:List Nat):Prop:=rE X tg (tGs X.K is)
theorem PG.imp{t t':TG}(h:PG X e t)(i:∀v σ H Q,t' v σ H Q->t v σ H Q):PG X e t':=λpins s σ H v u Q I r q=>h pins s σ H v u Q I r (i v σ H Q q)
theorem rE.imp{e:List Expr}{t t':t7}(h:rE X e t)(i:∀v σ H Q,t' v σ H Q->t v σ H Q):rE X e t':=λpins s σ H v u Q I r q=>h pins s σ H v u Q I r (i v σ H Q q)
section
variable {X:Cx} {e:Expr} {es:List Expr} {pos:aP}
theorem nu(i:Nat){x:aj}(hN:X.N.Nodup)(hi:autoParam (X.N[i]?=Ya x) qA)(hx:Loc X.env.scope x:=by first|exact Or.inl rfl|exact Or.inr rfl)(hf:X.fn x=true\/X.env.scope.names.lookup x=Ya .local:=by first|exact .inl rfl|exact .inr rfl):CG X (.Name x pos) (dN i):=PG.imp (Zom hN hi hx hf) λv σ H Q ak=>by obtain⟨ι,M,env,d,env',S,E,r,q,h⟩:=ak;cases q;exact h _ (E.set i r)
theorem FZ:Ke X [] []:=rE.imp ZsV λv σ H Q ak=>by
 obtain⟨ι,M,env,ds,env',S,E,r,q,h⟩:=ak;cases ds with
 |nil=>cases q;exact⟨r.nil_inv,h σ E⟩|cons d ds=>cases q
theorem rT(i:Nat){is:List Nat}{x:aj}(hN:X.N.Nodup)(ht:Ke X es is)(hi:autoParam (X.N[i]?=Ya x) qA)(hx:Loc X.env.scope x:=by first|exact Or.inl rfl|exact Or.inr rfl)(hf:X.fn x=true\/X.env.scope.names.lookup x=Ya .local:=by first|exact .inl rfl|exact .inr rfl)(hs:autoParam ((pD (.Name x pos::es) X.env).map (·.2)=pH (.Name x pos) X.env::(pD es X.env).map (·.2)) qA):
  Ke X (.Name x pos::es) (i::is):=rE.imp (ZrA (Zom hN hi hx hf) ht hs) λv σ H Q ak=>by
 obtain⟨ι,M,env,ds,env',S,E,r,q,h⟩:=ak;cases ds with
 |nil=>cases q|cons d ds=>obtain⟨v,ws,rfl,r1,r2⟩:=r.cons_inv;exact⟨v,ws,rfl,ι,M,env.set i (Ya d),ds,env',S,E.set i r1,r2,q,h⟩
theorem F_{is:List Nat}{k:Nat}(hc:X.calm=true)(h:Ke X es is)(hl:autoParam (es.length=is.length) qA)(hn:autoParam ((pD es X.env).length=is.length) qA)(hst:autoParam ((pD es X.env).findIdx? (·.1)=Yj) qA):CG X (.Tuple es k pos) (jc is):=
 PG.imp (Zvb (n:=is.length) hc h hn hst) λv σ H Q ak=>by
  obtain⟨ι,M,env,d,env',S,E,r,q,h⟩:=ak;cases d with
  | tup ds=>
   obtain⟨a,vs,rfl,s,r⟩:=r.jk;have hlen:∀(is:List Nat) (ds:List D) (env env':Zx),bindAll is ds env=Ya env'->ds.length=is.length:=by
    intro is
    induction is with
    |nil=>intro ds env env' h;cases ds with|nil=>rfl|cons d ds=>cases h
    |cons i is ih=>intro ds env env' h;cases ds with|nil=>cases h|cons d ds=>simp[ih ds _ _ h]
   exact⟨a,vs,rfl,s,by rw[r.length];exact hlen _ _ _ _ q,ι,M,env,ds,env',S,E,r,q,h⟩
  |_=>cases q
end
def rW(K:Yb)(H:Hp)(ι:List Ys)(it:gU)(J:It):Prop:=∀(i:Nat) H2 ι2 M2,Ext K H ι H2 ι2->aq K H2 ι2 M2->locked it M2=true ->
 (∀d,it.items[i]?=Ya d->J.go i H2/\∀x H3,J.JH i H2 x H3->H3=H2/\Rep K H2 ι2 d x)/\(i=it.items.length->J.stop i H2)
def Bj(K:Yb)(H:Hp)(ι:List Ys)(R:It->Hp->Prop)(r:R3 gU):Prop:=match r with
 | .ok it M'=>∀J H' ι',Ext K H ι H' ι'->aq K H' ι' M'->rW K H' ι' it J->R J H'|_=>False
def QT(K:Yb)(g:I3):TI:=λσ H R=>∃ι M env,aq K H ι M/\bC K H ι env σ/\Bj K H ι R (g env M)
def CI(X:Cx)(tg e:Expr)(g:I3):Prop:=PI X tg e (QT X.K g)
theorem PI.imp{tg:Expr}{t t':TI}(h:PI X tg e t)(i:∀σ H Q,t' σ H Q->t σ H Q):PI X tg e t':=λpins s σ H Q I q=>h pins s σ H Q I (i σ H Q q)
theorem PI.or{tg:Expr}{t t':TI}(h:PI X tg e t)(h':PI X tg e t'):PI X tg e (λσ H R=>t σ H R\/t' σ H R):=λpins s σ H Q I q=>q.elim (h pins s σ H Q I) (h' pins s σ H Q I)
theorem Bj.bind{Q:It->Hp->Prop}{r:R3 α}{k:α->Store->R3 gU}(h:Bj K H ι Q (r.bind k)):∃a M,r= .ok a M/\Bj K H ι Q (k a M):=by
 cases r with
 |ok a M=>exact⟨a,M,rfl,h⟩|exc x M=>exact h.elim|bad=>exact h.elim
section
variable {X:Cx} {tg e a b:Expr} {pos p:aP} {f g:E3}
theorem Zvu(h:C3 X e f)(hs:PI X tg e (λσ H R=>kZ X.K f σ H λx H1=>∃z:aj,x= .str z/\z.length<=SZ/\∀J,(∀ι,rW X.K H1 ι ⟨z.cps.toList.map λc=>.str [c],Yj⟩ J)->R J H1)):CI X tg e (eQ f):=
 PI.imp (PI.or (Zuz h) (PI.or (ZsC h) hs)) λσ H R ak=>by
  obtain⟨ι,M,env,S,E,h⟩:=ak;obtain⟨d,M1,e1,h⟩:=Bj.bind h;cases d with
  |tup ds=>refine .inl ⟨ι,M,env,S,E,?_⟩;rw[e1];intro v H1 ι1 x1 S1 r1;obtain⟨a,vs,rfl,s,r⟩:=r1.jk;refine⟨a,rfl,⟨vs,s⟩,h _ H1 ι1 x1 S1 ?_⟩;intro i H2 ι2 M2 x S2 _;refine⟨λd hd=>?_,λhl=>⟨vs,x.tup _ _ s,by rw[r.length,hl];exact Yo _⟩⟩;obtain⟨v,hv,rv⟩:=r.get hd;refine⟨⟨vs,v,x.tup _ _ s,hv⟩,λy H3 hy=>⟨hy.1,?_⟩⟩;have e:=hy.2 vs (x.tup _ _ s);rw[hv]at e;cases e;exact rv.mono x|a_ ds=>refine .inr (.inl ⟨ι,M,env,S,E,?_⟩);rw[e1];intro v H1 ι1 x1 S1 r1;obtain⟨a,vs,rfl,s,r⟩:=r1.uW;refine⟨a,rfl,⟨vs,s.sq⟩,h _ H1 ι1 x1 S1 ?_⟩;intro i H2 ι2 M2 x S2 _;refine⟨λd hd=>?_,λhl=>⟨vs,(x.a_ _ _ s).sq,by rw[r.length,hl];exact Yo _⟩⟩;obtain⟨v,hv,rv⟩:=r.get hd;refine⟨⟨vs,v,(x.a_ _ _ s).sq,hv⟩,λy H3 hy=>⟨hy.1,?_⟩⟩;have e:=hy.2 vs (x.a_ _ _ s).sq;rw[hv]at e;cases e;exact rv.mono x|ref n=>
   refine .inr (.inl ⟨ι,M,env,S,E,?_⟩);rw[e1];intro v H1 ι1 x1 S1 r1;cases hm:M1[n]? with
   |none=>simp only[hm]at h;exact h.elim|some o=>
    cases o with
    |dct kvs=>simp only[hm]at h;exact h.elim|cV kvs=>simp only[hm]at h;exact h.elim|ins _ _=>simp only[hm]at h;exact h.elim|lst ds=>simp only[hm]at h;obtain⟨a,ha,rfl⟩:=r1.e_;obtain⟨vs,q,r⟩:=S1.obj n _ a hm ha;refine⟨a,rfl,⟨vs,bD.of q⟩,h _ H1 ι1 x1 S1 ?_⟩;intro i H2 ι2 M2 x S2 lk;have Ga:M2[n]?=Ya (.lst ds):=of_decide_eq_true lk;obtain⟨vs2,q2,r2⟩:=S2.obj n _ a Ga (x.pre _ _ ha);refine⟨λd hd=>?_,λhl=>⟨vs2,bD.of q2,by rw[r2.length,hl];exact Yo _⟩⟩;obtain⟨v,hv,rv⟩:=r2.get hd;refine⟨⟨vs2,v,bD.of q2,hv⟩,λy H3 hy=>⟨hy.1,?_⟩⟩;have e:=hy.2 vs2 (bD.of q2);rw[hv]at e;cases e;exact rv
  | str z=>
   refine .inr (.inr ⟨ι,M,env,S,E,?_⟩);rw[e1];intro v H1 ι1 x1 S1 r1;have hv:=r1.str_inv;subst hv;by_cases hz:z.length<=SZ
   .simp only[if_pos hz]at h;refine⟨_,rfl,by simpa[pJ]using hz,λJ hJ=>h J H1 ι1 x1 S1 ?_⟩;simpa using hJ ι1
   .simp only[if_neg hz]at h;exact h.elim
  |non=>exact h.elim|bl b=>exact h.elim|int i=>exact h.elim
theorem ZqR(lo:Int)(n:Nat):rW K H ι ⟨Fp lo n,Yj⟩ (JL lo n):=by
 intro i H2 ι2 M2 x S _;refine⟨λd hd=>?_,λhl=>?_⟩
 .unfold Fp at hd;rw[ou]at hd;cases q:(iV n)[i]? with
  |none=>rw[q]at hd;cases hd|some k=>
   rw[q]at hd;obtain⟨hi,e⟩:=Yh.mp q;rw[List.getElem_range]at e;subst e;have hd':D.int (lo+(i:Int))=d:=by simpa using hd
   subst hd';exact⟨(by show i<n;simpa using hi),λy H3 hy=>⟨hy.1,by rw[hy.2];exact Rep.int⟩⟩
 .show n<=i;rw[hl];simp[Fp]
theorem ZoL(hm:X.mg "range" =Yj)(h:C3 X a f)(hg:autoParam (Gl X "range") qA)(hs:autoParam (Yq [a] X.env=[(false,aF a X.env)]) qA)(hs':autoParam (Yq (a::[]) X.env=(false,aF a X.env)::Yq [] X.env) qA):CI X tg (.Call (.Name "range" p) [a] [] pos) (RJ f):=
 PI.imp (Zpk hg hm (Zc h Zf hs') hs) λσ H R ak=>by
  obtain⟨ι,M,env,S,E,h⟩:=ak;obtain⟨d,M1,e1,h⟩:=Bj.bind h;refine⟨ι,M,env,S,E,?_⟩;have e2:Zb f Zg env M= .ok [d] M1:=by unfold Zb;rw[e1];rfl
  rw[e2];intro vs H1 ι1 x1 S1 r1;obtain⟨v,ws,rfl,r,q⟩:=r1.cons_inv;have:=q.nil_inv;subst this;cases d with
  | int j=>
   have hv:=r.int_inv;subst hv;by_cases hj:j<=1000000/\ -1000000<=j
   .simp only[if_pos hj]at h;exact⟨j,rfl,by omega,by omega,h _ H1 ι1 x1 S1 (ZqR 0 j.toNat)⟩
   .simp only[if_neg hj]at h;exact h.elim
  |_=>exact h.elim
theorem Kf{iter:Expr}{body:List Ydr}{i:I3}{g:G3}{u:S3}(Bl:X.xe=λ_ _=>False)(hc:X.calm=true)(hi:CI X tg iter i)(hg:CG X tg g)(hb:mj X body u)(hs:∀x,zr iter X.env x=pure x:=by intro _;rfl):
  CS X (.For tg iter body [] pos) (ul i g u):=(ZqB (by rw[Bl];exact Ymd) hc hi hg hb hs).imp λD σ H ak=>by
 obtain⟨ι,M,env,S,E,h⟩:=ak;unfold ul at h;cases q:i env M with
 |exc x M1=>rw[q]at h;exact h.elim|bad=>rw[q]at h;exact h.elim|ok it M1=>
  rw[q]at h;refine⟨ι,M,env,S,E,?_⟩;rw[q];intro J H1 ι1 x1 S1 ok;refine⟨λi m σ2 H2=>m=it.items.length-i/\i<=it.items.length/\∃ι2 M2 iQ,Ext X.K H1 ι1 H2 ι2/\aq X.K H2 ι2 M2/\bC X.K H2 ι2 iQ σ2/\nj X.K H2 ι2 D (cX it g u (it.items.drop i) iQ M2),
   ⟨_,rfl,d8 _,ι1,M1,env,Ext.refl,S1,E.mono x1,nj.up x1 h⟩,?_⟩
  rintro i m σ2 H2 ⟨rfl,hi,ι2,M2,iQ,x2,S2,E2,h2⟩;by_cases hlt:i<it.items.length
  .have hd:it.items[i]?=Ya it.items[i]:=by simp[hlt]
   rw[zJ hlt]at h2
   first|rw[uh]at h2|rw[ug]at h2
   by_cases lk:locked it M2=true
   .rw[if_pos lk]at h2;obtain⟨go,yl⟩:=(ok i H2 ι2 M2 x2 S2 lk).1 _ hd;cases eg:g it.items[i] iQ with
    |none=>rw[eg]at h2;exact h2.elim|some wR=>
     rw[eg]at h2;refine .inr ⟨go,λσ' H'=>∃ι3 M3 nW,Ext X.K H2 ι2 H' ι3/\aq X.K H' ι3 M3/\bC X.K H' ι3 nW σ'/\nj X.K H' ι3 D (cX it g u (it.items.drop (i+1)) nW M3),
      λσ' H' ⟨ι3,M3,nW,x3,S3,E3,h3⟩=>⟨it.items.length-(i+1),lD 2 0x30113c2012a1c0c21 T1 (j4 (lB 1 6991908881 T1 hlt)) (jH _ _),rfl,hlt,ι3,M3,nW,x2.trans x3,S3,E3,h3⟩,λx H' hy=>?_⟩
     obtain⟨rfl,rx⟩:=yl x H' hy;refine⟨ι2,M2,iQ,_,wR,S2,E2,rx,eg,λσ' E'=>⟨ι2,M2,wR,S2,E',?_⟩⟩;cases qu:u wR M2 with
     |nx e' M'=>simp only[qu]at h2;exactλσ' H' ι' x' S' E'=>⟨ι',M',e',x',S',E',h2.up x'⟩|ct e' M'=>simp only[qu]at h2;exactλσ' H' ι' x' S' E'=>⟨ι',M',e',x',S',E',h2.up x'⟩|bk e' M'=>simp only[qu]at h2;exact h2|rt d M'=>simp only[qu]at h2;exact h2
     |exc x' M'=>simp only[qu]at h2;exact h2.elim|bad=>simp only[qu]at h2;exact h2.elim
   .rw[if_neg lk]at h2;exact h2.elim
  .have e0:i=it.items.length:=gn hi (iW hlt);subst e0;rw[Iv]at h2
   first|rw[uh]at h2|rw[ug]at h2
   by_cases lk:locked it M2=true
   .rw[if_pos lk]at h2;exact .inl ⟨(ok _ H2 ι2 M2 x2 S2 lk).2 rfl,h2 σ2 H2 ι2 Ext.refl S2 E2⟩
   .rw[if_neg lk]at h2;exact h2.elim
theorem ZlH{c1:Expr}{body:List Ydr}{u:S3}(Bl:X.xe=λ_ _=>False)(hc:CT X c1 f)(hb:mj X body u):CS X (.While c1 body [] pos) (ye f u):=(Zrj (by rw[Bl];exact Ymd) hc hb).imp λD σ H ak=>by
 obtain⟨ι,M,env,S,E,h⟩:=ak;refine⟨λm σ2 H2=>∃ι2 M2 iQ,aq X.K H2 ι2 M2/\bC X.K H2 ι2 iQ σ2/\nj X.K H2 ι2 D (jw f u m iQ M2),⟨1000000,ι,M,env,S,E,h⟩,?_⟩;rintro m σ2 H2 ⟨ι2,M2,iQ,S2,E2,h2⟩;cases m with
 |zero=>exact h2.elim|succ m=>
  refine⟨ι2,M2,iQ,S2,E2,?_⟩;rw[RK]at h2;cases q:f iQ M2 with
  |exc x M1=>rw[q]at h2;exact h2.elim|bad=>rw[q]at h2;exact h2.elim|ok d M1=>
   rw[q]at h2;cases d with
   | bl k=>
    cases k with
    |false=>intro H3 ι3 x3 S3;rw[if_neg (by decide)];exact h2 σ2 H3 ι3 x3 S3 (E2.mono x3)|true=>
     intro H3 ι3 x3 S3;rw[if_pos rfl];refine⟨λσ' H'=>∃ι4 M4 nW,aq X.K H' ι4 M4/\bC X.K H' ι4 nW σ'/\nj X.K H' ι4 D (jw f u m nW M4),λσ' H' q=>⟨m,DR _,q⟩,ι3,M1,iQ,S3,E2.mono x3,?_⟩;have h3:=nj.up x3 h2;cases qu:u iQ M1 with
     |nx e' M'=>simp only[qu]at h3;exactλσ' H' ι' x' S' E'=>⟨ι',M',e',S',E',h3.up x'⟩|ct e' M'=>simp only[qu]at h3;exactλσ' H' ι' x' S' E'=>⟨ι',M',e',S',E',h3.up x'⟩|bk e' M'=>simp only[qu]at h3;exact h3|rt d M'=>simp only[qu]at h3;exact h3
     |exc x' M'=>simp only[qu]at h3;exact h3.elim|bad=>simp only[qu]at h3;exact h3.elim
   |_=>exact h2.elim
end
theorem Rep.VV(r:Rep K H ι d v):decide (v=V.non)=decide (d=D.non):=by
 cases d with
 |non=>rw[r.iM];rfl|bl b=>rw[r.gC];rfl|int i=>rw[r.int_inv];rfl|str x=>rw[r.str_inv];rfl
 |tup ds=>obtain⟨a,vs,e,_⟩:=r.jk;rw[e];rfl|a_ ds=>obtain⟨a,vs,e,_⟩:=r.uW;rw[e];rfl|ref n=>obtain⟨a,_,e⟩:=r.e_;rw[e];rfl
theorem ZhZ{x y:List Nat}:decide (V.str ⟨x.toArray⟩=V.str ⟨y.toArray⟩)=(x==y):=by
 by_cases h:x=y
 .subst h;simp
 .rw[decide_eq_false (λe=>h (by injection e with e1;injection e1 with e2;simpa using congrArg z8 e2))]
  exact(beq_eq_false_iff_ne.mpr h).symm
section
variable {X:Cx}
theorem ZqY:bh X (jU .Add) (λx y H Q=>∃a b ys,x= .ref a/\y= .ref b/\cM X.K H a []/\cM X.K H b ys/\Q (.ref b) H):=by
 intro pins s σ H x y v u Q I rx ry h;obtain⟨a,b,ys,rfl,rfl,ha,hb,q⟩:=h;cases rx;cases ry;obtain⟨its,r1,p1,_⟩:=I.tuple ha;obtain⟨its2,r2,p2,_⟩:=I.tuple hb;cases r1;obtain⟨⟨cls,dd,data,sl⟩,ho,hc,n,hd⟩:=id p1;obtain⟨⟨cls2,dd2,data2,sl2⟩,ho2,hc2,n2,hd2⟩:=id p2;simp only at hc hd hc2 hd2;subst hc hd hc2 hd2;exact Oh ⟨_,ho,rfl⟩ ⟨_,ho2,rfl⟩ N8 Od Qh Qg (Qf _ _)
   (tuple_addW0 a b _ its2.toArray n n2 dd dd2 sl sl2 (by simp)) ⟨ho,ho2,⟨.ref b,H,I,rfl,q⟩⟩
theorem Ztc(x y:List Nat):(⟨x.toArray⟩:aj)++⟨y.toArray⟩=⟨(x++y).toArray⟩:=by show Str.append _ _=_;unfold Str.append;simp
noncomputable def yu(o:Option D)(f:D->R3 D):R3 D:=match o with
 |some d=>f d|none=>.bad
theorem Gb{Q:VK}{o:Option D}{f:D->R3 D}(h:Zn K H ι Q (yu o f)):∃x,o=Ya x/\Zn K H ι Q (f x):=by
 cases o with
 |none=>exact h.elim|some x=>exact⟨x,rfl,h⟩
noncomputable def onN(o:Option Nat)(f:Nat->R3 D):R3 D:=match o with
 |some d=>f d|none=>.bad
theorem ZsG{Q:VK}{o:Option Nat}{f:Nat->R3 D}(h:Zn K H ι Q (onN o f)):∃x,o=Ya x/\Zn K H ι Q (f x):=by
 cases o with
 |none=>exact h.elim|some x=>exact⟨x,rfl,h⟩
noncomputable def Gd(o:Option MO)(f:List D->R3 D):R3 D:=match o with
 |some (.lst x)=>f x|_=>.bad
theorem RZ{Q:VK}{o:Option MO}{f:List D->R3 D}(h:Zn K H ι Q (Gd o f)):∃x,o=Ya (.lst x)/\Zn K H ι Q (f x):=by
 cases o with
 |none=>exact h.elim|some o=>cases o with
  |lst x=>exact⟨x,rfl,h⟩|_=>exact h.elim
noncomputable def Zwy(a b:Option MO)(f:List D->List D->R3 D):R3 D:=match a,b with
 |some (.lst x),Ya (.lst y)=>f x y|_,_=>.bad
theorem Zre{Q:VK}{a b:Option MO}{f:List D->List D->R3 D}(h:Zn K H ι Q (Zwy a b f)):∃x y,a=Ya (.lst x)/\b=Ya (.lst y)/\Zn K H ι Q (f x y):=by
 cases a with
 |none=>exact h.elim|some a=>cases a with
  | lst x=>cases b with
   |none=>exact h.elim|some b=>cases b with
    |lst y=>exact⟨x,y,rfl,rfl,h⟩|_=>exact h.elim
  |_=>exact h.elim
theorem Ge{Q:VK}{c:Prop}{_:Decidable c}(h:Zn K H ι Q (if c then r else .bad)):c/\Zn K H ι Q r:=by
 by_cases hc:c
 .rw[if_pos hc]at h;exact⟨hc,h⟩
 .rw[if_neg hc]at h;exact h.elim
theorem Zlk(r:Zm K H ι ds []):ds=[]:=Ow r.length.symm
theorem jz:bh X (jU .Add) (r2 X.K cJ):=bh.imp (bh.or ZuS (bh.or Zmj (bh.or ZuQ (bh.or Zsj ZqY)))) λx y H Q ak=>by
 obtain⟨ι,M,a,b,S,ra,rb,h⟩:=ak;cases a with
 |int i=>cases b with
  |int j=>exact .inl ⟨i,j,ra.int_inv,rb.int_inv,Zn.ok h S Rep.int⟩|_=>exact h.elim
 | str x=>cases b with
  |str y=>obtain⟨hz,h⟩:=Ge h;exact .inr (.inl ⟨_,_,ra.str_inv,rb.str_inv,Yp hz l_,by rw[Ztc];exact Zn.ok h S Rep.str⟩)|_=>exact h.elim
 | tup x=>cases b with
  | tup y=>
   obtain⟨hz,h⟩:=Ge h;obtain⟨p,vs,e,s,r⟩:=ra.jk;obtain⟨q,ws,e',s',r'⟩:=rb.jk;by_cases hv:vs=[]
   .rw[hv]at r s;rw[Zlk r]at h;exact .inr (.inr (.inr (.inr ⟨p,q,ws,e,e',s,s',Zn.ok h S (Rep.tup s' r')⟩)))
   .refine .inr (.inr (.inr (.inl ⟨p,q,vs,ws,e,e',s,s',hv,by rw[r.length,r'.length];exact Yp hz l_,λhw=>?_,λhw p' hp=>?_⟩)))
    .rw[hw]at r';rw[Zlk r',iD]at h;exact Zn.ok h S (Rep.tup s r)
    .obtain⟨x2,S2,r2⟩:=S.tE hp (r.append r');exact h _ _ _ x2 S2 r2
  |_=>exact h.elim
 | ref n=>cases b with
  |ref m=>have h:Zn X.K H ι Q (Zwy M[n]? M[m]? λx y=>@ite _ (x.length+y.length<=SZ) (Yx _) (alloc (.lst (x++y)) M) .bad):=h;obtain⟨x,y,hn,hm,h⟩:=Zre h;obtain⟨hz,h⟩:=Ge h;obtain⟨p,hp,e⟩:=ra.e_;obtain⟨q,hq,e'⟩:=rb.e_;obtain⟨vs,e1,r1⟩:=S.obj n _ p hn hp;obtain⟨ws,e2,r2⟩:=S.obj m _ q hm hq;refine .inr (.inr (.inl ⟨p,q,vs,ws,e,e',e1,e2,by rw[r1.length,r2.length];exact Yp hz l_,λp' hp'=>?_⟩));obtain⟨x2,S2,r3⟩:=S.lst hp' (r1.append r2);exact h _ _ _ x2 S2 r3|_=>exact h.elim
 |_=>cases b<;>exact h.elim
theorem Bm:bh X (jU .Sub) (r2 X.K oM):=bh.imp ZtT λx y H Q ak=>by obtain⟨ι,M,a,b,S,ra,rb,h⟩:=ak;cases a<;>cases b<;>first|exact h.elim|exact⟨_,_,ra.int_inv,rb.int_inv,Zn.ok h S Rep.int⟩
theorem yw:bh X (jU .Mod) (r2 X.K gW):=bh.imp Zt5 λx y H Q ak=>by
 obtain⟨ι,M,a,b,S,ra,rb,h⟩:=ak;cases a with
 | int i=>cases b with
  | int j=>
   simp only[Zk5]at h;split at h
   .rename_i hj;exact⟨i,j,ra.int_inv,rb.int_inv,hj,Zn.ok h S Rep.int⟩
   .exact h.elim
  |_=>exact h.elim
 |_=>cases b<;>exact h.elim
theorem Gf:bh X (jU .FloorDiv) (r2 X.K jM):=bh.imp Zta λx y H Q ak=>by
 obtain⟨ι,M,a,b,S,ra,rb,h⟩:=ak;cases a with
 | int i=>cases b with
  | int j=>
   simp only[ZjT]at h;split at h
   .rename_i hj;exact⟨i,j,ra.int_inv,rb.int_inv,hj,Zn.ok h S Rep.int⟩
   .exact h.elim
  |_=>exact h.elim
 |_=>cases b<;>exact h.elim
theorem oZ:t_ X (Ih .USub) (r1 X.K gH):=t_.imp Zus λx H Q ak=>by
 obtain⟨ι,M,a,S,ra,h⟩:=ak;cases a with
 |int i=>exact⟨i,ra.int_inv,Zn.ok h S Rep.int⟩|_=>exact h.elim
theorem Bo:bh X (fX .Lt) (r2 X.K jN):=bh.imp Zxm λx y H Q ak=>by obtain⟨ι,M,a,b,S,ra,rb,h⟩:=ak;cases a<;>cases b<;>first|exact h.elim|exact⟨_,_,ra.int_inv,rb.int_inv,Zn.ok h S Rep.bl⟩
theorem Zwb:bh X (fX .LtE) (r2 X.K EY):=bh.imp Zv8 λx y H Q ak=>by obtain⟨ι,M,a,b,S,ra,rb,h⟩:=ak;cases a<;>cases b<;>first|exact h.elim|exact⟨_,_,ra.int_inv,rb.int_inv,Zn.ok h S Rep.bl⟩
theorem v5:bh X (fX .Gt) (r2 X.K jo):=bh.imp ZwG λx y H Q ak=>by obtain⟨ι,M,a,b,S,ra,rb,h⟩:=ak;cases a<;>cases b<;>first|exact h.elim|exact⟨_,_,ra.int_inv,rb.int_inv,Zn.ok h S Rep.bl⟩
theorem R0:bh X (fX .Is) (r2 X.K Am):=bh.imp ZtL λx y H Q ak=>by
 obtain⟨ι,M,a,b,S,ra,rb,h⟩:=ak;cases b with
 |non=>exact⟨rb.iM,by rw[ra.VV];exact Zn.ok h S Rep.bl⟩|_=>exact h.elim
theorem Ztb:bh X (fX .IsNot) (r2 X.K Rq):=bh.imp Zsl λx y H Q ak=>by
 obtain⟨ι,M,a,b,S,ra,rb,h⟩:=ak;cases b with
 |non=>exact⟨rb.iM,by rw[ra.VV];exact Zn.ok h S Rep.bl⟩|_=>exact h.elim
end
theorem units_in1(A:bj):A.in1.units=A.units+1:=rfl
variable{A:bj}{es:List D}
section
variable {X:Cx} {pins:List (Ys×aD)} {σ:St} {H:Hp} {s:Yf} {ι:List Ys}
theorem ZkY{e:Nat->Bool}:∀{x y:List D},x.length=y.length->(∀(j:Nat) a b,x[j]?=Ya a->y[j]?=Ya b->e j=cG a b)->(iV x.length).all e=gD x y:=by
 intro x
 induction x generalizing e with
 |nil=>intro y h _;cases y with|nil=>rfl|cons _ _=>simp at h
 | cons a x ih=>
  intro y h he;cases y with
  |nil=>simp at h|cons b y=>rw[Yk,Xp,iU,List.all_map,he 0 a b rfl rfl];rw[Rk];congr 1;exact ih (e:=e ∘ Nat.succ) (by simpa using h) λj a' b' h1 h2=>he (j+1) a' b' (by simpa using h1) (by simpa using h2)
theorem ZlQ:∀{x y:List D},gD x y=true->x.length=y.length
 |[],[],_=>rfl|[],_::_,h=>ft h|_::_,[],h=>ft h|a::x,b::y,h=>congrArg Nat.succ (ZlQ (vJ.mp (h:(cG a b&&gD x y)=true)).2)
theorem Kg(h:cT 0 d=true):b8 d=true:=by cases d<;>first|exact rfl|exact h
theorem Bp(h:cT (n+1) d=true):b8 d=true\/∃ds,d= .tup ds:=by
 cases d with
 |tup ds=>exact .inr ⟨ds,rfl⟩|a_ _=>exact ft h|ref _=>exact ft h|_=>exact .inl rfl
theorem ZjY{a b:D}(fa:b8 a=true)(fb:b8 b=true)(r:Rep K H ι a v)(q:Rep K H ι b v):cG a b=true:=by
 cases a with
 |non=>have e:=r.iM;cases b with
  |non=>rfl|bl _=>cases e.symm.trans q.gC|int _=>cases e.symm.trans q.int_inv|str _=>cases e.symm.trans q.str_inv
  |_=>exact ft fb
 |bl x=>have e:=r.gC;cases b with
  |non=>cases e.symm.trans q.iM|bl _=>exact beq_iff_eq.mpr (V.bl.inj (e.symm.trans q.gC))|int _=>cases e.symm.trans q.int_inv|str _=>cases e.symm.trans q.str_inv
  |_=>exact ft fb
 |int x=>have e:=r.int_inv;cases b with
  |non=>cases e.symm.trans q.iM|bl _=>cases e.symm.trans q.gC|int _=>exact beq_iff_eq.mpr (V.int.inj (e.symm.trans q.int_inv))|str _=>cases e.symm.trans q.str_inv
  |_=>exact ft fb
 |str x=>have e:=r.str_inv;cases b with
  |non=>cases e.symm.trans q.iM|bl _=>cases e.symm.trans q.gC|int _=>cases e.symm.trans q.int_inv|str _=>exact ZhZ.symm.trans (decide_eq_true (e.symm.trans q.str_inv))
  |_=>exact ft fb
 |_=>exact ft fa
theorem Zlm{a:D}{p:Ys}(fa:b8 a=true)(r:Rep K H ι a v)(e:v= .ref p):False:=by
 cases a with
 |non=>cases e.symm.trans r.iM|bl x=>cases e.symm.trans r.gC|int x=>cases e.symm.trans r.int_inv|str x=>cases e.symm.trans r.str_inv
 |_=>exact ft fa
theorem Rep.fun1(I:Inv X pins σ H s):∀(n:Nat) (a b:D) (v:V),cT n a=true->cT n b=true->Rep X.K H ι a v->Rep X.K H ι b v->cG a b=true:=by
 intro n
 induction n with
 |zero=>intro a b v ha hb r q;exact ZjY (Kg ha) (Kg hb) r q|succ n ih=>
  intro a b v ha hb r q;rcases Bp ha with fa|⟨ds,ea⟩
  .rcases Bp hb with fb|⟨es,eb⟩
   .exact ZjY fa fb r q
   .rw[eb]at q;obtain⟨p,vs,e,_⟩:=q.jk;exact(Zlm fa r e).elim
  .rw [ea]at r ha ⊢;obtain⟨p,vs,e,s1,r1⟩:=r.jk;rcases Bp hb with fb|⟨es,eb⟩
   .exact(Zlm fb q e).elim
   .rw[eb]at q hb ⊢;obtain⟨p',ws,e',s2,r2⟩:=q.jk;rw[←V.ref.inj (e.symm.trans e')]at s2;rw[←I.Mx s1 s2]at r2;clear s1 s2 e e' q r eb ea;rw[ZtH];revert ha hb r1 r2
    induction ds generalizing es vs with
    |nil=>
     intro _ r1 _ r2;cases es with
     |nil=>rfl|cons _ _=>obtain⟨_,_,e,_⟩:=r2.cons_inv;cases r1.nil_inv.symm.trans e
    | cons d ds ih2=>
     intro h1 r1 h2 r2;obtain⟨v,ws,e,q1,q2⟩:=r1.cons_inv;cases es with
     |nil=>cases r2.nil_inv.symm.trans e|cons e' es=>obtain⟨v',ws',z,q3,q4⟩:=r2.cons_inv;obtain⟨z1,z2⟩:=iY (z.symm.trans e);rw[z1]at q3;rw[z2]at q4;have g1:=vJ.mp (h1:(cT n d&&ds.all (cT n))=true);have g2:=vJ.mp (h2:(cT n e'&&es.all (cT n))=true);rw[Rk,ih d e' v g1.1 g2.1 q1 q3];exact ih2 ws es g1.2 q2 g2.2 q4
theorem Bq{x:V}(r:Rep K H ι .non x)(e:RelV x u):u= .none:=by rw[r.iM]at e;cases e;rfl
theorem v7{b:Bool}{x:V}(r:Rep K H ι (.bl b) x)(e:RelV x u):u= .bool b:=by rw[r.gC]at e;cases e;rfl
theorem v8{i:Int}{x:V}(r:Rep K H ι (.int i) x)(e:RelV x u):∃t,u= .int i t:=by rw[r.int_inv]at e;exact e
theorem uw{i:List Nat}{x:V}(r:Rep K H ι (.str i) x)(e:RelV x u):∃t,u= .str ⟨i.toArray⟩ t:=by rw[r.str_inv]at e;exact e
inductive R4(X:Cx)(H:Hp)(ι:List Ys)(T:Ys->Array Yd->Prop)(ds:List D)(x:V)(u:Yd):Prop
 |mk (p:Ys) (vs:List V) (its:List Yd):x= .ref p->u= .ref p->T p its.toArray->Zm X.K H ι ds vs->Vals vs its->R4 X H ι T ds x u
theorem Br(I:Inv X pins σ H s){x:V}(r:Rep X.K H ι (.tup ds) x)(e:RelV x u):R4 X H ι s.heap.IsTuple ds x u:=by obtain⟨p,vs,ex,s1,r1⟩:=r.jk;obtain⟨its,rvs,ht,_⟩:=I.tuple s1;rw[ex]at e;exact⟨p,vs,its,ex,e,ht,r1,rvs⟩
theorem Q3{i k:List Nat}:decide (i=k)=((⟨i.toArray⟩:aj)==⟨k.toArray⟩):=by
 rw[←I_,←ZhZ];by_cases h:(⟨i.toArray⟩:aj)=⟨k.toArray⟩
 .rw[h,beq_self_eq_true];exact decide_eq_true rfl
 .rw[beq_eq_false_iff_ne.mpr h];exact decide_eq_false λe=>h (V.str.inj e)
theorem Zsw{i k:List Nat}:cG (.str i) (.str k)=((⟨i.toArray⟩:aj)==⟨k.toArray⟩):=vL (show(i==k)=decide (i=k)from I_ i k) Q3
theorem Kh(A:bj)(a b:D)(x y:V)(u v:Yd)(ha:b8 a=true)(hb:b8 b=true)(ra:Rep X.K H ι a x)(rb:Rep X.K H ι b y)(ru:RelV x u)(rv:RelV y v):rm A s u v (cG a b):=by
 cases a with
 |non=>rw[Bq ra ru];cases b with
  |non=>rw[Bq rb rv];exact Qt _|bl k=>rw[v7 rb rv];exact Z_ _|int k=>obtain⟨t,e⟩:=v8 rb rv;rw[e];exact Yjs _ _|str k=>obtain⟨t,e⟩:=uw rb rv;rw[e];exact Yjt _ _
  |_=>exact ft hb
 |bl i=>rw[v7 ra ru];cases b with
  |non=>rw[Bq rb rv];exact Yi9 _|bl k=>rw[v7 rb rv];exact Yja _ _|int k=>obtain⟨t,e⟩:=v8 rb rv;rw[e];exact Yju _ _ _|str k=>obtain⟨t,e⟩:=uw rb rv;rw[e];exact Yjv _ _ _
  |_=>exact ft hb
 |int i=>obtain⟨t0,e0⟩:=v8 ra ru;rw[e0];cases b with
  |non=>rw[Bq rb rv];exact Yjw _ _|bl k=>rw[v7 rb rv];exact Yjx _ _ _|int k=>obtain⟨t,e⟩:=v8 rb rv;rw[e];exact Ykj _ _ _ _|str k=>obtain⟨t,e⟩:=uw rb rv;rw[e];exact Qs _ _ _ _
  |_=>exact ft hb
 |str i=>obtain⟨t0,e0⟩:=uw ra ru;rw[e0];cases b with
  |non=>rw[Bq rb rv];exact Yjy _ _|bl k=>rw[v7 rb rv];exact Yjz _ _ _|int k=>obtain⟨t,e⟩:=v8 rb rv;rw[e];exact Jr _ _ _ _|str k=>obtain⟨t,e⟩:=uw rb rv;rw[e,Zsw];exact Ykk _ _ _ _
  |_=>exact ft hb
 |_=>exact ft ha
noncomputable def Gg(ds es:List D)(j:Nat):Bool:=match ds[j]?,es[j]? with|some a,Ya b=>cG a b|_,_=>false
theorem Zod(hl:ds.length≠es.length):gD ds es=false:=by
 cases q:gD ds es with
 |false=>rfl|true=>exact absurd (ZlQ q) hl
theorem Zol(hn:n=ds.length)(hl:ds.length=es.length):(iV n).all (Gg ds es)=gD ds es:=by rw[hn];exact ZkY hl λj a b h1 h2=>by unfold Gg;rw[h1,h2]
theorem ZnV{m:Nat}(hn:n=ds.length)(hm:m=es.length):((iV (ir n m)).all (Gg ds es)&&n==m)=gD ds es:=by
 by_cases hl:ds.length=es.length
 .have e:n=m:=hn.trans (hl.trans hm.symm);rw[←e,Nat.min_self,beq_self_eq_true,Jb];exact Zol hn hl
 .rw[Zod hl,beq_eq_false_iff_ne.mpr λe=>hl (hn.symm.trans (e.trans hm)),DY]
theorem nA{its:List Yd}(r:Zm X.K H ι ds vs)(v:Vals vs its):its.toArray.size=ds.length:=Yt.trans (v.length.symm.trans r.length)
theorem R5{ws:List V}{its its2:List Yd}(ih:∀(a b:D) (x y:V) (u v:Yd),cT n a=true->cT n b=true->Rep X.K H ι a x->Rep X.K H ι b y->RelV x u->RelV y v->rm A s u v (cG a b))(p1:ds.all (cT n)=true)(p2:es.all (cT n)=true)(r1:Zm X.K H ι ds vs)(r2:Zm X.K H ι es ws)(v1:Vals vs its)(v2:Vals ws its2)(j:Nat)(h1:j<its.toArray.size)(h2:j<its2.toArray.size):rm A s its.toArray[j] its2.toArray[j] (Gg ds es j):=by
 have k1:j<ds.length:=by rw[←nA r1 v1];exact h1
 have k2:j<es.length:=by rw[←nA r2 v2];exact h2
 have q1:=jG k1;have q2:=jG k2;obtain⟨x,g1,z1⟩:=r1.get q1;obtain⟨y,g2,z2⟩:=r2.get q2;obtain⟨u,e1,l1⟩:=v1.get g1;obtain⟨v,e2,l2⟩:=v2.get g2;unfold Gg;rw[q1,q2];obtain⟨_,e1⟩:=Yh.mp e1;obtain⟨_,e2⟩:=Yh.mp e2;exact ih _ _ x y _ _ (gO.mp p1 _ (xx k1)) (gO.mp p2 _ (xx k2)) z1 z2 (e1▸l1) (e2▸l2)
theorem Zk2(A:bj)(hu1:A.units<iR){a:D}{x:V}{p:Ys}{its:Array Yd}(ha:b8 a=true)(ra:Rep X.K H ι a x)(ru:RelV x u)(it:s.heap.IsTuple p its):rm A s u (.ref p) (cG a (.tup es))/\rm A s (.ref p) u (cG (.tup es) a):=by
 cases a with
 |non=>rw[Bq ra ru];exact⟨SeqAt.EqAt.none_tuple it hu1,SeqAt.EqAt.tuple_none it hu1⟩|bl k=>rw[v7 ra ru];exact⟨SeqAt.EqAt.bool_tuple _ it hu1,SeqAt.EqAt.tuple_bool _ it hu1⟩|int k=>obtain⟨t,e⟩:=v8 ra ru;rw[e];exact⟨SeqAt.EqAt.int_tuple _ _ it hu1,SeqAt.EqAt.tuple_int _ _ it hu1⟩|str k=>obtain⟨t,e⟩:=uw ra ru;rw[e];exact⟨SeqAt.EqAt.str_tuple _ _ it hu1,SeqAt.EqAt.tuple_str _ _ it hu1⟩
 |_=>exact ft ha
theorem Zqs(I:Inv X pins σ H s):∀(n:Nat) (A:bj) (_:A.units+n+1<iR) (a b:D) (x y:V) (u v:Yd),cT n a=true->cT n b=true->Rep X.K H ι a x->Rep X.K H ι b y->RelV x u->RelV y v->rm A s u v (cG a b):=by
 intro n
 induction n with
 |zero=>intro A hu a b x y u v ha hb ra rb ru rv;exact Kh A a b x y u v (Kg ha) (Kg hb) ra rb ru rv|succ n ih=>
  intro A hu a b x y u v ha hb ra rb ru rv;have hu0:A.units+0+1<iR:=lC 1 0x2ae0cc12aa1c0cc11 T1 hu;have hu1:A.units<iR:=lB 1 1104257534993 T1 hu0;rcases Bp ha with fa|⟨ds,ea⟩
  .rcases Bp hb with fb|⟨es,eb⟩
   .exact Kh A a b x y u v fa fb ra rb ru rv
   .rw[eb]at rb ⊢;obtain⟨p,vs,its,ex,eu,t,_⟩:=Br I rb rv;rw[eu];exact(Zk2 A hu1 fa ra ru t).1
  .rw[ea]at ra ha ⊢;obtain⟨p,vs,its,ex,eu,t,r1,v1⟩:=Br I ra ru;rw[eu];rcases Bp hb with fb|⟨es,eb⟩
   .exact(Zk2 A hu1 fb rb rv t).2
   .rw[eb]at rb hb ⊢;obtain⟨q,ws,its2,ey,ev,t',r2,v2⟩:=Br I rb rv;rw[ev];by_cases hp:p=q
    .rw[ey,←hp,←ex]at rb;rw[Rep.fun1 I (n+1) _ _ _ ha hb ra rb,hp];exact Qt _
    .refine SeqAt.EqAt.of_refs hp ?_;rw[ZtH,←ZnV (nA r1 v1) (nA r2 v2)];exact Yk0 t t' hu1 (R5 (ih A.in1 (by rw[units_in1];exact lC 1 0x2a1a0ccc12aa1c0cc11 T1 hu)) ha hb r1 r2 v1 v2)
end
section
variable {X:Cx}
section
variable {pins:List (Ys×aD)} {σ:St} {H:Hp} {s:Yf} {ι:List Ys}
theorem Kl(I:Inv X pins σ H s)(S:aq X.K H ι M){x:V}(h:M[n]?=Ya (.lst ds))(r:Rep X.K H ι (.ref n) x)(e:RelV x u):R4 X H ι s.heap.IsList ds x u:=by obtain⟨p,hp1,ex⟩:=r.e_;obtain⟨vs,e1,r1⟩:=S.obj n _ p h hp1;obtain⟨its,rvs,pl1,_⟩:=I.list (bD.of e1);rw[ex]at e;exact⟨p,vs,its,ex,e,pl1.isList,r1,rvs⟩
inductive yx(M:Store)(a b:D)(k:Bool):Prop
 |ref {n m:Nat} (ds es:List D):a= .ref n->b= .ref m->gD ds es=k->M[n]?=Ya (.lst ds)->M[m]?=Ya (.lst es)->ds.all (cT DEEP)=true/\es.all (cT DEEP)=true->yx M a b k
 |int (i j:Int):a= .int i->b= .int j->decide (i=j)=k->yx M a b k
 |str (i j:List Nat):a= .str i->b= .str j->decide (i=j)=k->yx M a b k
 |bl (i j:Bool):a= .bl i->b= .bl j->decide (i=j)=k->yx M a b k
 |tup {ds es:List D}:a= .tup ds->b= .tup es->gD ds es=k->ds.all (cT DEEP)=true/\es.all (cT DEEP)=true->yx M a b k
theorem R6{c d:Bool}{a k:α}(h:(if c&&d then Ya a else Yj)=Ya k):a=k/\c=true/\d=true:=by
 cases c with
 |false=>exact iH h|true=>cases d with
  |false=>exact iH h|true=>exact⟨Y9 h,rfl,rfl⟩
noncomputable def ZxZ(a b:Option MO):Option Bool:=match a,b with
 |some (.lst x),Ya (.lst y)=>if x.all (cT DEEP)&&y.all (cT DEEP)then Ya (gD x y)else Yj|_,_=>Yj
theorem Zsz{m:Nat}{k:Bool}(h:ZxZ M[n]? M[m]?=Ya k):yx M (.ref n) (.ref m) k:=by
 cases e1:M[n]? with
 |none=>rw[e1]at h;exact iH h|some o=>cases o with
  | lst x=>cases e2:M[m]? with
   |none=>rw[e1,e2]at h;exact iH h|some o=>cases o with
    |lst y=>rw[e1,e2]at h;exact have w:=R6 h;.ref x y rfl rfl w.1 e1 e2 w.2|_=>rw[e1,e2]at h;exact iH h
  |_=>rw[e1]at h;exact iH h
theorem eqK{a b:D}{k:Bool}(h:oN a b M=Ya k):yx M a b k:=by
 cases a with
 |ref n=>cases b with
  |ref m=>exact Zsz h|_=>exact iH h
 |int i=>cases b with
  |int j=>exact .int i j rfl rfl (Y9 h)|_=>exact iH h
 |str i=>cases b with
  |str j=>exact .str i j rfl rfl (Y9 h)|_=>exact iH h
 |bl i=>cases b with
  |bl j=>exact .bl i j rfl rfl (Y9 h)|_=>exact iH h
 |tup ds=>cases b with
  |tup es=>exact have w:=R6 h;.tup rfl rfl w.1 w.2|_=>exact iH h
 |_=>cases b<;>exact iH h
theorem Km{a b:D}{x y:V}{v:Yd}{k:Bool}(hu:X.A.units+80<iR)(I:Inv X pins σ H s)(S:aq X.K H ι M)(ra:Rep X.K H ι a x)(rb:Rep X.K H ι b y)(ru:RelV x u)(rv:RelV y v)(h:oN a b M=Ya k):SeqAt.RcAt X.A s u v k/\SeqAt.RcNeAt X.A s u v (!k):=by
 have hu1:X.A.units<iR:=lB 1 17666545486865 T1 hu;have hu2:X.A.in1.units+DEEP+1<iR:=by rw[units_in1];exact(show X.A.units+1+60+1<iR from lB 1 0x1a3c2ba0ccc11502b0c11 T1 hu)
 rcases eqK h with⟨ds,es,ea,eb,ek,e1,e2,p1,p2⟩|⟨i,j,ea,eb,ek⟩|⟨i,j,ea,eb,ek⟩|⟨i,j,ea,eb,ek⟩|⟨ea,eb,ek,p1,p2⟩
 .rw[ea]at ra;rw[eb]at rb;rw[←ek];obtain⟨p,vs,its,_,eu,t,r1,v1⟩:=Kl I S e1 ra ru;obtain⟨q,ws,its2,_,ev,t',r2,v2⟩:=Kl I S e2 rb rv;rw[eu,ev];by_cases hl:ds.length=es.length
  .rw[←Zol (nA r1 v1) hl];have hz:=(nA r1 v1).trans (hl.trans (nA r2 v2).symm);have w:=R5 (Zqs I DEEP X.A.in1 hu2) p1 p2 r1 r2 v1 v2;exact⟨SeqAt.RcAt.lists t t' hz hu1 w,SeqAt.RcNeAt.lists t t' hz hu1 w⟩
  .rw[Zod hl];have hz:(its.toArray.size !=its2.toArray.size)=true:=bne_iff_ne.mpr λe=>hl ((nA r1 v1).symm.trans (e.trans (nA r2 v2)));exact⟨SeqAt.RcAt.lists_lengths t t' hz hu1,Ygd t t' hz hu1⟩
 .rw[ea]at ra;rw[eb]at rb;obtain⟨t,e⟩:=v8 ra ru;obtain⟨t',e'⟩:=v8 rb rv;rw[e,e',←ek,←I_];exact⟨SeqAt.RcAt.int_int _ _ _ _,SeqAt.RcNeAt.int_int _ _ _ _⟩
 .rw[ea]at ra;rw[eb]at rb;obtain⟨t,e⟩:=uw ra ru;obtain⟨t',e'⟩:=uw rb rv;rw[e,e',←ek,Q3];exact⟨SeqAt.RcAt.str_str _ _ _ _,SeqAt.RcNeAt.str_str _ _ _ _⟩
 .rw[ea]at ra;rw[eb]at rb;rw[v7 ra ru,v7 rb rv,←ek,←I_];exact⟨SeqAt.RcAt.bool_bool _ _,SeqAt.RcNeAt.bool_bool _ _⟩
 .rw[ea]at ra;rw[eb]at rb;obtain⟨p,vs,its,_,eu,t,r1,v1⟩:=Br I ra ru;obtain⟨q,ws,its2,_,ev,t',r2,v2⟩:=Br I rb rv;rw[eu,ev,←ek,←ZnV (nA r1 v1) (nA r2 v2)];have w:=R5 (Zqs I DEEP X.A.in1 hu2) p1 p2 r1 r2 v1 v2;exact⟨Yk0 t t' hu1 w,SeqAt.RcNeAt.tuples t t' hu1 w⟩
end
theorem dH(hu:X.A.units+80<iR):bh X (fX .Eq) (r2 X.K aN):=by
 intro pins s σ H x y v u Q I rx ry h;obtain⟨ι,M,a,b,S,ra,rb,h⟩:=h;unfold aN at h;cases q:oN a b M with
 |none=>rw[q]at h;exact h.elim|some k=>rw[q]at h;exact(Km hu I S ra rb rx ry q).1 X.prog X.w X.xe _ ⟨.bl k,H,I,rfl,Zn.ok h S Rep.bl⟩
theorem R7{i:Int}(r:Zm K H ι ds vs)(h:dW ds i=Ya d):∃v,xZ vs i=Ya v/\Rep K H ι d v:=by
 unfold dW at h;unfold xZ;have e:Ey vs.length i=m8 ds.length i:=by rw[r.length];rfl
 rw[e];cases q:m8 ds.length i with
 |none=>rw[q]at h;cases h|some j=>rw[q]at h;exact r.get h
theorem cj:j_ X (r2 X.K Zz):=j_.imp Zvp λx y H Q ak=>by
 obtain⟨ι,M,a,b,S,ra,rb,h⟩:=ak;cases a with
 | tup ds=>cases b with
  |int i=>have h:Zn X.K H ι Q (yu (dW ds i) (λd=>.ok d M)):=h;obtain⟨d,q,h⟩:=Gb h;obtain⟨p,vs,e',s1,r1⟩:=ra.jk;obtain⟨v,e,rv⟩:=R7 r1 q;exact .inr (.inl ⟨p,vs,i,v,e',rb.int_inv,s1,e,Zn.ok h S rv⟩)|_=>exact h.elim
 | a_ ds=>cases b with
  |int i=>have h:Zn X.K H ι Q (yu (dW ds i) (λd=>.ok d M)):=h;obtain⟨d,q,h⟩:=Gb h;obtain⟨p,vs,e',s1,r1⟩:=ra.uW;obtain⟨v,e,rv⟩:=R7 r1 q;exact .inl ⟨p,vs,i,v,e',rb.int_inv,s1.sq,e,Zn.ok h S rv⟩|_=>exact h.elim
 | str z=>cases b with
  |int i=>have h:Zn X.K H ι Q (onN (dW z i) (λc=>@ite _ (z.length<=SZ) (Yx _) (.ok (.str [c]) M) .bad)):=h;obtain⟨c,q,h⟩:=ZsG h;obtain⟨hz,h⟩:=Ge h;exact .inr (.inr ⟨_,i,c,ra.str_inv,rb.int_inv,Yp hz l_,q,Zn.ok h S Rep.str⟩)|_=>exact h.elim
 | ref n=>cases b with
  |int i=>have h:Zn X.K H ι Q (Gd (M[n]?) (λds=>yu (dW ds i) λd=>.ok d M)):=h;obtain⟨ds,hn,h⟩:=RZ h;obtain⟨d,q,h⟩:=Gb h;obtain⟨p,hp,e'⟩:=ra.e_;obtain⟨vs,e1,r1⟩:=S.obj n _ p hn hp;obtain⟨v,e,rv⟩:=R7 r1 q;exact .inl ⟨p,vs,i,v,e',rb.int_inv,bD.of e1,e,Zn.ok h S rv⟩|_=>exact h.elim
 |_=>cases b<;>exact h.elim
theorem R8(r:Zm K H ι ds vs)(lo hi:Option Int):Zm K H ι (cutD ds lo hi) (vP vs lo hi):=by
 have e:∀n d o,_HT.aA n d o=aA n d o:=λn d o=>by cases o<;>rfl
 unfold cutD vP;rw[e,e,r.length];exact(r.drop _).take _
end
noncomputable def fZ(cells:List (aj×Ys)):List (aj×NameKind)->List (aj×Ys)->List (aj×Ys)
 |[],cs=>cs|(n,k)::r,cs=>fZ cells r (if k== .free then(n,(cells.lookup n).getD 0)::cs else cs)
theorem Gh{cells:List (aj×Ys)}{n:aj}{k:NameKind}{r:List (aj×NameKind)}{cs:List (aj×Ys)}:fZ cells ((n,k)::r) cs=fZ cells r (if k== .free then(n,(cells.lookup n).getD 0)::cs else cs):=rfl
theorem R9{scope:Scope}{env:cH}(h:∀y∈scope.names,y.2= .free->∃c,env.cells.lookup y.1=Ya c):closureFor scope env=pure (fZ env.cells scope.names []):=by
 unfold closureFor;have key:∀(names:List (aj×NameKind)) (cs:List (aj×Ys)),(∀y∈names,y.2= .free->∃c,env.cells.lookup y.1=Ya c) ->
   (forIn names cs λx r=>match x with|(name,kind)=>if(kind==NameKind.free)=true then do let c ←cellOf env name;pure (ForInStep.yield ((name,c)::r))else pure (ForInStep.yield r):jW (List (aj×Ys)))=pure (fZ env.cells names cs):=by
  intro names
  induction names with
  |nil=>intro cs _;rfl|cons y r ih=>
   intro cs hy;obtain⟨n,k⟩:=y;rw[List.forIn_cons];by_cases hk:k= .free
   .subst hk;obtain⟨c,hc⟩:=hy (n,.free) Yg rfl;have e1:cellOf env n=pure c:=by unfold cellOf;rw[hc]
    simp only[beq_self_eq_true,if_true,e1,pure_bind];rw[ih _ λz hz=>hy z (Ye _ hz)];rw[Gh,hc];rfl
   .have hb:(k==NameKind.free)=false:=by simpa using hk
    simp only[hb,DX,if_false,pure_bind];rw[ih _ λz hz=>hy z (Ye _ hz)];rw[Gh,hb];rfl
 have:=key scope.names [] h
 first
  |exact this
  |(simp only[bind_pure];exact this)
theorem ZoD{cells:List (aj×Ys)}{x:aj}{c:Ys}:∀(names:List (aj×NameKind)) (cs:List (aj×Ys)),(∀y∈names,y.2= .free->∃c,cells.lookup y.1=Ya c)->(fZ cells names cs).lookup x=Ya c->cs.lookup x=Ya c\/cells.lookup x=Ya c:=by
 intro names
 induction names with
 |nil=>intro cs _ h;exact .inl h|cons y r ih=>
  intro cs hy h;obtain⟨n,k⟩:=y;rw[Gh]at h;rcases ih _ (λz hz=>hy z (Ye _ hz)) h with q|q
  .by_cases hk:k= .free
   .subst hk;obtain⟨c0,hc⟩:=hy (n,.free) Yg rfl;simp only[beq_self_eq_true,if_true,hc,Option.getD_some,iT]at q;cases hx:x==n with
    |true=>
     simp only[hx]at q;cases q;have:x=n:=by simpa using hx
     subst this;exact .inr hc
    |false=>simp only[hx]at q;exact .inl q
   .have hb:(k==NameKind.free)=false:=by simpa using hk
    simp only[hb,DX,if_false]at q;exact .inl q
  .exact .inr q
theorem Zmw{cells:List (aj×Ys)}{x:aj}:∀(names:List (aj×NameKind)) (cs:List (aj×Ys)),(cs.lookup x).isSome=true->((fZ cells names cs).lookup x).isSome=true:=by
 intro names
 induction names with
 |nil=>intro cs h;exact h|cons y r ih=>
  intro cs h;obtain⟨n,k⟩:=y;rw[Gh];refine ih _ ?_;split
  .rw[iT];split
   .rfl
   .exact h
  .exact h
theorem ZjC{cells:List (aj×Ys)}{x:aj}:∀(names:List (aj×NameKind)) (cs:List (aj×Ys)),(x,NameKind.free)∈names->((fZ cells names cs).lookup x).isSome=true:=by
 intro names
 induction names with
 |nil=>intro cs h;cases h|cons y r ih=>
  intro cs h;obtain⟨n,k⟩:=y;rw[Gh];rcases Ym.mp h with e|h
  .cases e
   refine Zmw _ _ ?_;simp
  .exact ih _ h
noncomputable def fP(X:Cx)(scope:Scope)(N':List aj)(C:Ys)(cl:List (aj×Ys))(s:Yf)(H:Hp)(ex:List Ys):Cx:={X with N:=N',s₀:=s,H₀:=H,env:=Du scope cl C X.env,outer:=X.stack,stack:=X.stack,ex:=ex,fn:=λ_=>false,pn:=[],xe:=λ_ _=>False}
noncomputable def R_(N N':List aj)(scope:Scope):Bool:=(iV N.length).all λi=>match N'[i]? with
 |some x=>(scope.names.lookup x).isNone|| (decide (N[i]?=Ya x)&&decide (scope.names.lookup x=Ya .free))|none=>false
def pW(X:Cx)(ifs:List Expr)(ts:List E3):Prop:=∀(pins:List (Ys×aD)) (s:Yf) (σ:St) (H:Hp) (Q:Bool->Hp->Prop),Inv X pins σ H s ->
 (∃ι M env,aq X.K H ι M/\bC X.K H ι env σ/\match um ts env M with| .ok b M'=>∀H' ι',Ext X.K H ι H' ι'->aq X.K H' ι' M'->Q b H'|_=>False) ->
 Y8 (ao X.prog X.w) X.A (forIn ifs true λc r=>if r=true then do let ok ←isTrue c X.env (aF c X.env);pure (ForInStep.yield ok)else pure (ForInStep.yield r)) (TP X pins σ Q) X.xe s
theorem pX:pW X [] []:=λpins s σ H Q I ⟨ι,M,env,S,E,h⟩=>wpAny_tests_nil ⟨H,I,h H ι Ext.refl S⟩
theorem Zsy{c:Expr}(hc:CT X c f):pW X [c] [f]:=λpins s σ H Q I ak=>by
 obtain⟨ι,M,env,S,E,h⟩:=ak;refine wpAny_tests_one (hc pins s σ H Q I ⟨ι,M,env,S,E,?_⟩);rw[Fq]at h;cases q:f env M with
 | ok d M1=>
  rw[q]at h;cases d with
  |bl b=>cases b with
   |true=>exact h|false=>exact h
  |_=>exact h.elim
 |exc x M1=>rw[q]at h;exact h.elim|bad=>rw[q]at h;exact h.elim
section
variable {prog:aZ} {w:aU} {A:bj} {R:n8->Yf->Prop} {s:Yf}
theorem ZgP{elt target iter:Expr}{ifs:List Expr}{scope:Scope}{pos:aP}{it acc:Yd}{env:cH}(I:Nat->Yf->Prop)(turn:∀n s,I n s->Y8 (ao prog w) A (vo it) (λr s₁=>match r with
   |none=>R (.ok .next) s₁|some v=>Y8 (ao prog w) A (Dm target it v) (λ_ s₁'=>Y8 (ao prog w) A (pH target env v) (λ_ s₂=>
     Y8 (ao prog w) A (forIn ifs true λc r=>if r=true then do let ok ←isTrue c env (aF c env);pure (ForInStep.yield ok)else pure (ForInStep.yield r)) (λok s₃=>
      if ok=true then Y8 (ao prog w) A (aF elt env) (λx s₄=>Y8 (ao prog w) A (call (.builtin "list.append") [acc,x]) (λ_ s₅=>∃m,m<n/\I m s₅) (λ_ _=>False) s₄) (λ_ _=>False) s₃
      else∃m,m<n/\I m s₃) (λ_ _=>False) s₂) (λ_ _=>False) s₁') (λ_ _=>False) s₁) (λ_ _=>False) s)(n:Nat)(h:I n s):jt (ao prog w) A (.compLoop (.ListComp elt [⟨target,iter,ifs,0⟩] scope pos) 0 it acc env) R s:=by
 refine codeAny_loop rfl I (λn s hI=>?_) n h;show Y8 _ A ((compTurn (.ListComp elt [⟨target,iter,ifs,0⟩] scope pos) 0 it acc env).onRaise (λx=>do Dt x env;theTreesLotGoes x)) _ _ s;refine wpAny_noted ?_;rw[compTurn_list];refine Yc (vd (Yc (fj (turn n s hI) (λr s₁ h₁=>?_) λ_ _ h'=>dR h')));cases r with
 |none=>exact Yn h₁|some v=>
  refine Yc (fj h₁ (λ_ s₁' h₁'=>?_) λ_ _ h'=>dR h');refine Yc (fj h₁' (λ_ s₂ h₂=>Yc (fj h₂ (λok s₃ h₃=>?_) λ_ _ h'=>dR h')) λ_ _ h'=>dR h');cases ok with
  |false=>exact Yn ⟨rfl,h₃⟩|true=>exact Yc (Yc (fj h₃ (λx s₄ h₄=>Yc (fj h₄ (λ_ s₅ h₅=>Yn (Yn ⟨rfl,h₅⟩)) λ_ _ h'=>dR h')) λ_ _ h'=>dR h'))
end
theorem Sd{env:cH}{x:aj}{k:NameKind}:∀{names:List (aj×NameKind)},(names.map λ(n,k)=>if(k==NameKind.free&&env.scope.kind== .function&&env.kindOf n==Ya .cell)then(n,NameKind.cell)else(n,k)).lookup x=Ya k ->
  ∃k0,names.lookup x=Ya k0/\(k0=k\/(k0= .free/\k= .cell)):=by
 intro names
 induction names with
 |nil=>intro h;simp at h|cons y r ih=>
  intro h;obtain⟨n,k1⟩:=y;rw[Yv]at h;cases hx:x==n with
  | true=>
   refine⟨k1,by simp[iT,hx],?_⟩;by_cases hc:(k1==NameKind.free&&env.scope.kind== .function&&env.kindOf n==Ya .cell)=true
   .simp only[if_pos hc,iT,hx]at h;cases h;simp only[Y5,beq_iff_eq]at hc;exact .inr ⟨hc.1.1,rfl⟩
   .simp only[if_neg hc,iT,hx]at h;cases h;exact .inl rfl
  | false=>
   have h':(r.map λ(n,k)=>if(k==NameKind.free&&env.scope.kind== .function&&env.kindOf n==Ya .cell)then(n,NameKind.cell)else(n,k)).lookup x=Ya k:=by
    by_cases hc:(k1==NameKind.free&&env.scope.kind== .function&&env.kindOf n==Ya .cell)=true
    .simp only[if_pos hc,iT,hx]at h;exact h
    .simp only[if_neg hc,iT,hx]at h;exact h
   obtain⟨k0,e,q⟩:=ih h';exact⟨k0,by simp[iT,hx,e],q⟩
theorem ZkV{env:cH}{x:aj}:∀{names:List (aj×NameKind)},names.lookup x=Ya .free ->
  (names.map λ(n,k)=>if(k==NameKind.free&&env.scope.kind== .function&&env.kindOf n==Ya .cell)then(n,NameKind.cell)else(n,k)).lookup x=Ya .free\/
  (names.map λ(n,k)=>if(k==NameKind.free&&env.scope.kind== .function&&env.kindOf n==Ya .cell)then(n,NameKind.cell)else(n,k)).lookup x=Ya .cell:=by
 intro names
 induction names with
 |nil=>intro h;simp at h|cons y r ih=>
  intro h;obtain⟨n,k1⟩:=y;rw[Yv];cases hx:x==n with
  |true=>
   simp only[iT,hx]at h;cases h;by_cases hc:(NameKind.free==NameKind.free&&env.scope.kind== .function&&env.kindOf n==Ya .cell)=true
   .simp only[if_pos hc,iT,hx];exact .inr trivial
   .simp only[if_neg hc,iT,hx];exact .inl trivial
  |false=>
   simp only[iT,hx]at h;by_cases hc:(k1==NameKind.free&&env.scope.kind== .function&&env.kindOf n==Ya .cell)=true
   .simp only[if_pos hc,iT,hx];exact ih h
   .simp only[if_neg hc,iT,hx];exact ih h
section
variable {X:Cx} {pins:List (Ys×aD)} {σ:St} {H:Hp} {s:Yf} {scope:Scope} {N':List aj} {own:Nat} {fp:List Ys}
theorem Zk8(I:Inv X pins σ H s)(hk:scope.kind= .function)(hcell:∀y∈scope.names,y.2≠ .cell)(hfree:∀y∈scope.names,y.2= .free->X.env.kindOf y.1=Ya .cell\/X.env.kindOf y.1=Ya .free)(hN:N'.length=X.N.length+own)(hv:R_ X.N N' scope=true)(hfp:∀b∈fp,gR X pins H b)(hlt:∀b∈fp,b<s.heap.objs.size){h1:au}{tk:Nat}(hns:h1.Ns s.heap.objs.size λ_=>Yj)(keep:∀b o,s.heap.get? b=Ya o->h1.get? b=Ya o):
  Inv (fP X scope N' s.heap.objs.size (fZ X.env.cells scope.names []) s H fp) [] (σ++Y2 own Yj) H {s with heap:=h1,toks:=tk}:=by
 have hc0:∀y∈scope.names,y.2= .free->∃c,X.env.cells.lookup y.1=Ya c:=λy hy e=>I.ok.has y.1 (hfree y hy e);have sub:∀x c,(fZ X.env.cells scope.names []).lookup x=Ya c->X.env.cells.lookup x=Ya c:=λx c h=>by
  rcases ZoD scope.names [] hc0 h with q|q
  .simp at q
  .exact q
 have cellK:∀{c:Ys} {v:Option Yd},s.heap.IsCell c v->h1.IsCell c v:=λ⟨o,ho,hd⟩=>⟨o,keep _ o ho,hd⟩;refine⟨⟨I.ok.mod,hk,I.ok.glob,I.ok.blt,Yo _,λx y c h1 h2=>I.ok.inj x y c (sub x c h1) (sub y c h2),λx hx=>?_,λx c h=>?_,I.ok.hd,I.ok.frames,.inl rfl,λb hb=>⟨dM (hlt b hb),λx c h=>(hfp b hb).2.2.2.2.1 x c (sub x c h)⟩,
   I.bs,Yp I.ok.mX I.sz,λb o e hb=>?_,λb hb hz=>?_,I.stack,I.MN⟩,rfl,I.bare,Un.kept keep,⟨_,hns,λi x v h1 h2 h3=>?_⟩,λx c h=>?_,I.hok.fresh (Yo _),λx c h=>I.jC x c (sub x c h),
  λp hp=>absurd (show p∈([]:List (Ys×aD))from hp) (by simp),I.hok.kept keep,?_⟩
 .have hx':(vh scope X.env).names.lookup x=Ya .cell\/(vh scope X.env).names.lookup x=Ya .free:=hx;have:scope.names.lookup x=Ya .free:=by
   rcases hx' with hx'|hx'
   .obtain⟨k0,e,q⟩:=Sd (names:=scope.names) hx';rcases q with q|⟨q,_⟩
    .subst q;exact absurd rfl (hcell _ (tO e))
    .rw[e,q]
   .obtain⟨k0,e,q⟩:=Sd (names:=scope.names) hx';rcases q with q|⟨_,q⟩
    .rw[e,q]
    .cases q
  exact Nk.mp (ZjC scope.names [] (tO this))
 .cases h
 .obtain⟨_,_,_,q,_⟩:=hfp b hb;rcases q with q|q
  .exact I.ok.wQ b o e q
  .exact absurd (Y6 (Y0 e) (Yp I.ok.mX q)) (vH _)
 .have hz':b∈frs X.stack:=hz;obtain⟨_,q1,q2,_⟩:=hfp b hb;rcases Ym.mp (I.zj b hz')with e|e
  .exact q1 e
  .exact q2 e
 .have hi:i<σ.length:=by
   by_cases hi:i<σ.length
   .exact hi
   .rw[xr (iW hi),Il]at h2;split at h2<;>cases h2
  rw[Y3 hi]at h2;have Ek:i<X.N.length:=by rw[←I.len];exact hi
  have hN':N'[i]?=Ya x:=h1;have vq:=gO.mp hv i (O8.mpr Ek);rw[hN']at vq;have h3':(vh scope X.env).names.lookup x=Ya .local\/(vh scope X.env).names.lookup x=Ya .cell\/(vh scope X.env).names.lookup x=Ya .free:=h3;have some_of:∃k0,scope.names.lookup x=Ya k0:=by rcases h3' with q|q|q<;>(obtain⟨k0,e,_⟩:=Sd (names:=scope.names) q;exact⟨k0,e⟩)
  obtain⟨k0,ek⟩:=some_of;simp only[ek,Option.isNone_some,YF,Y5,decide_eq_true_eq]at vq;obtain⟨vq1,vq2⟩:=vq;cases vq2;have hkind:=hfree (x,.free) (tO ek) rfl;obtain⟨m,hn,hl⟩:=I.loc;have AcI:JD X.env.scope x:=by
   rcases hkind with q|q
   .exact .inr (.inl q)
   .exact .inr (.inr q)
  obtain⟨u,ru,lk⟩:=hl i x v vq1 h2 AcI;refine⟨u,ru,?_⟩;rcases lk with⟨kl,_⟩|⟨_,c,ec,ic⟩
  .rcases hkind with q|q<;>(rw[q]at kl;cases kl)
  .have hkk:(Du scope (fZ X.env.cells scope.names []) s.heap.objs.size X.env).kindOf x=Ya .cell\/(Du scope (fZ X.env.cells scope.names []) s.heap.objs.size X.env).kindOf x=Ya .free:=by
    rcases ZkV (env:=X.env) ek with q|q
    .exact .inr q
    .exact .inl q
   obtain⟨c',ec'⟩:=Nk.mp (ZjC (cells:=X.env.cells) scope.names [] (tO ek));have e2:=sub x c' ec';rw[ec]at e2;cases e2;exact .inr ⟨hkk,c,ec',cellK ic⟩
 .obtain⟨v,ic⟩:=I.cell x c (sub x c h);exact⟨v,cellK ic⟩
 .show(σ++Y2 own Yj).length=N'.length;rw[Yl,Xq,I.len,hN]
theorem bC.grow{H:Hp}{σ:St}(E:bC K H ι env σ)(n:Nat):bC K H ι (env++Y2 n Yj) (σ++Y2 n Yj):=by
 refine⟨by simp[E.1],λi d h=>?_⟩;by_cases hi:i<env.length
 .rw[Y3 hi]at h;obtain⟨v,e,r⟩:=E.2 i d h;exact⟨v,by rw[Y3 (by rw[←E.1];exact hi)];exact e,r⟩
 .rw[xr (iW hi),Il]at h;split at h<;>cases h
end
section
structure Cb where
 Y:Cx
 fp:List Ys
 tn:Nat->au->Prop
 aV:gU
 H2:Hp
 ι2:List Ys
 Q:VK
 g:G3
 ts:List E3
 f:E3
 nM:Nat
 acc:Ys
inductive Sg(P:Cb)(n:Nat)(s':Yf):Prop
 | mk (k:Nat) (σ5:St) (H5:Hp) (ι5:List Ys) (M5:Store) (tG:Zx) (I5:Inv P.Y [] σ5 H5 s') (j8:P.tn k s'.heap) (oG:∀b∈P.fp,H5 b=Yj) (hn:P.aV.items.length-k=n) (hk:k<=P.aV.items.length)
   (x5:Ext P.Y.K P.H2 P.ι2 H5 ι5) (S5:aq P.Y.K H5 ι5 M5) (E5:bC P.Y.K H5 ι5 tG σ5) (hι:ι5[P.nM]?=Ya P.acc) (h5:Zn P.Y.K H5 ι5 P.Q (iJ P.aV P.g P.ts P.f P.nM (P.aV.items.drop k) tG M5))
def Ko(P:Cb)(n:Nat)(s':Yf):Prop:=∃m,m<n/\Sg P m s'
section
noncomputable local instance (priority:=100000) AeO (p:Prop):Decidable p:=Acq p
noncomputable def Kp(P:Cb)(k:Nat)(env:Zx)(e:D)(M2:Store):R3 D:=match M2[P.nM]? with
 |some (.lst x)=>if x.length<SZ then iJ P.aV P.g P.ts P.f P.nM (P.aV.items.drop (k+1)) env (M2.set P.nM (.lst (x++[e])))else .bad|_=>.bad
noncomputable def Sh(P:Cb)(k:Nat)(env:Zx)(b:Bool)(M1:Store):R3 D:=if b then(P.f env M1).bind (Kp P k env)else iJ P.aV P.g P.ts P.f P.nM (P.aV.items.drop (k+1)) env M1
end
def cbF(P:Cb)(n:Nat)(xv:Yd)(s:Yf):Prop:=Y8 (ao P.Y.prog P.Y.w) P.Y.A (call (.builtin "list.append") [.ref P.acc,xv]) (λ_ s'=>Ko P n s') P.Y.xe s
def cbO(P:Cb)(elt:Expr)(n:Nat)(ok:Bool)(s:Yf):Prop:=if ok=true then Y8 (ao P.Y.prog P.Y.w) P.Y.A (aF elt P.Y.env) (cbF P n) P.Y.xe s else Ko P n s
def cbS(P:Cb)(elt:Expr)(ifs:List Expr)(n:Nat)(s:Yf):Prop:=Y8 (ao P.Y.prog P.Y.w) P.Y.A (forIn ifs true λc r=>if r=true then do let ok ←isTrue c P.Y.env (aF c P.Y.env);pure (ForInStep.yield ok)else pure (ForInStep.yield r)) (cbO P elt n) P.Y.xe s
def cbA(P:Cb)(tg elt:Expr)(ifs:List Expr)(n:Nat)(u:Yd)(s:Yf):Prop:=Y8 (ao P.Y.prog P.Y.w) P.Y.A (pH tg P.Y.env u) (λ_=>cbS P elt ifs n) P.Y.xe s
def cbN(P:Cb)(tg elt:Expr)(ifs:List Expr)(it:Ys)(n:Nat)(F:Yf->Prop)(r:Option Yd)(s:Yf):Prop:=match r with
 |none=>F s|some v=>Y8 (ao P.Y.prog P.Y.w) P.Y.A (Dm tg (.ref it) v) (λ_=>cbA P tg elt ifs n v) P.Y.xe s
variable {P:Cb} {tg elt:Expr} {ifs:List Expr} {J:It} {it:Ys} {k:Nat} {h7:au} {σ:St} {H H':Hp} {s:Yf} {ι:List Ys} {M M1:Store} {env:Zx}
theorem Zn9(T:Turn P.Y.prog P.Y.w P.Y.K tg J P.fp it P.tn)(jP:P.tn (k+1) h7)(hlt:k<P.aV.items.length)(I':Inv P.Y ([]++t8 P.fp h7) σ H s)(x:Ext P.Y.K P.H2 P.ι2 H ι)(S:aq P.Y.K H ι M)(E:bC P.Y.K H ι env σ)(hι:ι[P.nM]?=Ya P.acc)(h:Zn P.Y.K H ι P.Q (iJ P.aV P.g P.ts P.f P.nM (P.aV.items.drop (k+1)) env M)):Ko P (P.aV.items.length-k) s:=⟨P.aV.items.length-(k+1),lD 2 0x30113c2012a1c0c21 T1 (j4 (lB 1 6991908881 T1 hlt)) (jH _ _),⟨k+1,σ,H,ι,M,env,I'.CV,T.keep _ _ _ jP λb hb o e=>(I'.pin (b,o) (Y4 _ (Y4 _ (Ae hb e)))).1,λb hb=>(T.obj _ _ jP b hb).elim λo e=>(I'.pin (b,o) (Y4 _ (Y4 _ (Ae hb e.1)))).2.1,rfl,hlt,x,S,E,hι,h⟩⟩
theorem ZwD:Sh P k env true M=(P.f env M).bind (Kp P k env):=if_pos rfl
theorem Zxs:Sh P k env false M=iJ P.aV P.g P.ts P.f P.nM (P.aV.items.drop (k+1)) env M:=if_neg (by decide)
theorem Zn.iff{H:Hp}{ι:List Ys}{Q:VK}{c:Prop}{dc:Decidable c}(h:Zn K H ι Q (if c then r else .bad)):c/\Zn K H ι Q r:=by
 by_cases hc:c
 .rw[if_pos hc]at h;exact⟨hc,h⟩
 .rw[if_neg hc]at h;exact h.elim
theorem ZuF{xv:Yd}(T:Turn P.Y.prog P.Y.w P.Y.K tg J P.fp it P.tn)(jP:P.tn (k+1) h7)(hlt:k<P.aV.items.length)(I':Inv P.Y ([]++t8 P.fp h7) σ H s)(r:RelV v xv)(x:Ext P.Y.K P.H2 P.ι2 H ι)(S:aq P.Y.K H ι M)(E:bC P.Y.K H ι env σ)(rd:Rep P.Y.K H ι d v)(hι:ι[P.nM]?=Ya P.acc)(hm:M[P.nM]?=Ya (.lst xs))(hz:xs.length<SZ)(h:Zn P.Y.K H ι P.Q (iJ P.aV P.g P.ts P.f P.nM (P.aV.items.drop (k+1)) env (M.set P.nM (.lst (xs++[d]))))):
  cbF P (P.aV.items.length-k) xv s:=by
 obtain⟨vs,ev,rvs⟩:=S.obj _ _ _ hm hι;obtain⟨x11,Sq⟩:=S.Df (.inr (.inl ⟨_,ev⟩)) hι (rvs.append (Zm.cons rd Zm.nil));refine aH (Q':=λ_ s'=>Ko P (P.aV.items.length-k) s') (Ri _ s σ H (.ref P.acc) [v] (.ref P.acc) [xv] (λ_ H'=>H'=upd H P.acc (.lst (vs++[v]))) I' rfl (.cons r .nil) ⟨_,vs,v,rfl,rfl,ev,by rw[rvs.length];exact Y6 hz l_,rfl⟩) λ_ s11 ak=>?_;obtain⟨_,H11,Kq,_,eH⟩:=ak;rw[eH]at Kq;exact Zn9 T jP hlt Kq (x.trans x11) Sq (E.mono x11) (x11.pre _ _ hι) (h.up x11)
theorem Zva(T:Turn P.Y.prog P.Y.w P.Y.K tg J P.fp it P.tn)(helt:C3 P.Y elt P.f)(jP:P.tn (k+1) h7)(hlt:k<P.aV.items.length)(I':Inv P.Y ([]++t8 P.fp h7) σ H s)(x:Ext P.Y.K P.H2 P.ι2 H ι)(S:aq P.Y.K H ι M)(E:bC P.Y.K H ι env σ)(hι:ι[P.nM]?=Ya P.acc)(h:Zn P.Y.K H ι P.Q ((P.f env M).bind (Kp P k env))):
  Y8 (ao P.Y.prog P.Y.w) P.Y.A (aF elt P.Y.env) (cbF P (P.aV.items.length-k)) P.Y.xe s:=by
 obtain⟨d,Gi,e10,h10⟩:=Zn.bind h;refine aH (Q':=cbF P (P.aV.items.length-k)) (helt _ s σ H (λv H'=>∃pY,Ext P.Y.K H ι H' pY/\aq P.Y.K H' pY Gi/\Rep P.Y.K H' pY d v) I' ⟨ι,M,env,S,E,by rw[e10];exactλv H' ι' x' S' r'=>⟨ι',x',S',r'⟩⟩) λxv s10 ak=>?_;obtain⟨v,Ss,Su,r10,pY,x10,Kr,rd⟩:=ak;unfold Kp at h10;cases hm:Gi[P.nM]? with
 |none=>rw[hm]at h10;exact h10.elim|some o=>
  rw[hm]at h10;cases o with
  |dct _=>exact h10.elim|cV _=>exact h10.elim|ins _ _=>exact h10.elim|lst xs=>exact ZuF T jP hlt Su r10 (x.trans x10) Kr (E.mono x10) rd (x10.pre _ _ hι) hm (Zn.iff h10).1 ((Zn.iff h10).2.up x10)
theorem Zup(T:Turn P.Y.prog P.Y.w P.Y.K tg J P.fp it P.tn)(hts:pW P.Y ifs P.ts)(helt:C3 P.Y elt P.f)(jP:P.tn (k+1) h7)(hlt:k<P.aV.items.length)(I':Inv P.Y ([]++t8 P.fp h7) σ H s)(x:Ext P.Y.K P.H2 P.ι2 H ι)(S:aq P.Y.K H ι M)(E:bC P.Y.K H ι env σ)(hι:ι[P.nM]?=Ya P.acc)(h:Zn P.Y.K H ι P.Q ((um P.ts env M).bind (Sh P k env))):
  cbS P elt ifs (P.aV.items.length-k) s:=by
 obtain⟨b,M9,e9,h9⟩:=Zn.bind h;refine aH (Q':=cbO P elt (P.aV.items.length-k)) (hts _ s σ H (λb' H'=>b'=b/\∃ι9,Ext P.Y.K H ι H' ι9/\aq P.Y.K H' ι9 M9) I' ⟨ι,M,env,S,E,by rw[e9];exactλH' ι' x' S'=>⟨rfl,ι',x',S'⟩⟩) λb' s9 ak=>?_;obtain⟨H9,I9,eb,ι9,x9,S9⟩:=ak;rw[←eb]at h9;cases b' with
 |false=>exact Zn9 T jP hlt I9 (x.trans x9) S9 (E.mono x9) (x9.pre _ _ hι) (Zn.up x9 (Zxs▸h9))|true=>exact Zva T helt jP hlt I9 (x.trans x9) S9 (E.mono x9) (x9.pre _ _ hι) (Zn.up x9 (ZwD▸h9))
theorem Zw0(T:Turn P.Y.prog P.Y.w P.Y.K tg J P.fp it P.tn)(hc:P.Y.calm=true)(hfp:∀{H':Hp},(∀b∈P.fp,H' b=Yj)->∀b∈P.fp,gR P.Y [] H' b)(hg:CG P.Y tg P.g)(hts:pW P.Y ifs P.ts)(helt:C3 P.Y elt P.f)(hlt:k<P.aV.items.length)(I5:Inv P.Y [] σ H s)(j8:P.tn k s.heap)(oG:∀b∈P.fp,H b=Yj)(x:Ext P.Y.K P.H2 P.ι2 H ι)(S:aq P.Y.K H ι M)(E:bC P.Y.K H ι env σ)(hι:ι[P.nM]?=Ya P.acc)(ok:rW P.Y.K P.H2 P.ι2 P.aV J)(h:Zn P.Y.K H ι P.Q (iJ P.aV P.g P.ts P.f P.nM (P.aV.items[k]::P.aV.items.drop (k+1)) env M))(F:Yf->Prop):
  Y8 (ao P.Y.prog P.Y.w) P.Y.A (vo (.ref it)) (cbN P tg elt ifs it (P.aV.items.length-k) F) P.Y.xe s:=by
 obtain⟨lk,h⟩:=Zn.iff h;obtain⟨go,yl⟩:=(ok k H ι M x S lk).1 _ (jG hlt);cases eg:P.g P.aV.items[k] env with
 |none=>rw[eg]at h;exact h.elim|some tH=>rw[eg]at h;refine aH (T.item P.Y rfl rfl rfl hc k [] s σ H P.Y.xe I5 (hfp oG) j8 go) λr s6 ak=>?_;obtain⟨u,hr,h6⟩:=ak;rw[hr];refine aH (Q':=λ_=>cbA P tg elt ifs (P.aV.items.length-k) u) h6 λ_ s7 ak=>?_;obtain⟨y,H7,I7,r7,y7,jP,Ku⟩:=ak;obtain⟨e7,rx⟩:=yl y H7 y7;rw[e7]at I7 Ku;refine aH (Q':=λ_=>cbS P elt ifs (P.aV.items.length-k)) (hg _ s7 σ H y u (λσ' H'=>H'=H/\bC P.Y.K H ι tH σ') (I7.pinned (hfp Ku) (T.obj _ _ jP)) r7 ⟨ι,M,env,_,tH,S,E,rx,eg,λσ' E'=>⟨rfl,E'⟩⟩) λ_ s8 ak=>?_;obtain⟨σ8,H8,I8,e8,E8⟩:=ak;rw[e8]at I8;exact Zup T hts helt jP hlt I8 x S E8 hι h
theorem Ztf(T:Turn P.Y.prog P.Y.w P.Y.K tg J P.fp it P.tn)(hc:P.Y.calm=true)(hfp:∀{H':Hp},(∀b∈P.fp,H' b=Yj)->∀b∈P.fp,gR P.Y [] H' b)(I5:Inv P.Y [] σ H s)(j8:P.tn P.aV.items.length s.heap)(oG:∀b∈P.fp,H b=Yj)(x:Ext P.Y.K P.H2 P.ι2 H ι)(S:aq P.Y.K H ι M)(hι:ι[P.nM]?=Ya P.acc)(ok:rW P.Y.K P.H2 P.ι2 P.aV J)(h:Zn P.Y.K H ι P.Q (iJ P.aV P.g P.ts P.f P.nM [] env M)){F:Yf->Prop}(hF:∀s6,Inv P.Y [] σ H s6->P.Q (.ref P.acc) H->F s6):
  Y8 (ao P.Y.prog P.Y.w) P.Y.A (vo (.ref it)) (cbN P tg elt ifs it n F) P.Y.xe s:=by
 obtain⟨lk,h⟩:=Zn.iff h;refine aH (T.done P.Y rfl rfl rfl hc _ [] s σ H P.Y.xe I5 (hfp oG) j8 ((ok _ H ι M x S lk).2 rfl)) λr s6 ak=>?_;rw[ak.1];exact hF s6 ak.2 (h _ H ι Ext.refl S (Rep.ref hι))
end
variable{s:Yf}{fp:List Ys}{E:Yd->Yf->Prop}{pins:List (Ys×aD)}{it:Ys}
section
variable {X:Cx} {elt tg iter:Expr} {ifs:List Expr} {scope:Scope} {pos:aP} {i:I3} {own:Nat} {g:G3} {ts:List E3} {f:E3} {N':List aj}
structure yC(X:Cx)(scope:Scope)(N':List aj)(own:Nat):Prop where
 kind:scope.kind= .function
 cell:∀y∈scope.names,y.2≠ .cell
 free:∀y∈scope.names,y.2= .free->X.env.kindOf y.1=Ya .cell\/X.env.kindOf y.1=Ya .free
 names:∀y∈scope.names,y.2= .local->scope.names.lookup y.1=Ya .local
 len:N'.length=X.N.length+own
 vis:R_ X.N N' scope=true
theorem ZsN{P:Cb}{J:It}{F:Yf->Prop}(T:Turn P.Y.prog P.Y.w P.Y.K tg J P.fp it P.tn)(hc:P.Y.calm=true)(hfp:∀{H':Hp},(∀b∈P.fp,H' b=Yj)->∀b∈P.fp,gR P.Y [] H' b)(hb:CG P.Y tg P.g/\pW P.Y ifs P.ts/\C3 P.Y elt P.f)(ok:rW P.Y.K P.H2 P.ι2 P.aV J)(z:Sg P n s)(fin:∀σ H s',Inv P.Y [] σ H s'->P.Q (.ref P.acc) H->F s'):Y8 (ao P.Y.prog P.Y.w) P.Y.A (vo (.ref it)) (cbN P tg elt ifs it n F) P.Y.xe s:=by
 obtain⟨k,σ5,H5,ι5,M5,tG,I5,j8,oG,hn,hk,x5,S5,E5,hι,h5⟩:=z;by_cases hlt:k<P.aV.items.length
 .rw[zJ hlt]at h5;exact hn▸Zw0 T hc hfp hb.1 hb.2.1 hb.2.2 hlt I5 j8 oG x5 S5 E5 hι ok h5 _
 .rw[gn hk (iW hlt)]at j8 h5;rw[Iv]at h5;exact Ztf T hc hfp I5 j8 oG x5 S5 hι ok h5 λs6 I6 q=>fin σ5 H5 s6 I6 q
theorem ZlO{s3:Yf}{H2 H3:Hp}{ι2 ι3:List Ys}{M3:Store}{nM:Nat}{D:Ys}{tn:Nat->au->Prop}{J:It}{aV:gU}{Q:VK}(O:yC X scope N' own)(hc:X.calm=true)(hb:∀C cl s H ex,CG (fP X scope N' C cl s H ex) tg g/\pW (fP X scope N' C cl s H ex) ifs ts/\C3 (fP X scope N' C cl s H ex) elt f)(T:Turn X.prog X.w X.K tg J fp it tn)(st3:tn 0 s3.heap)(u5:∀b∈fp,b<s3.heap.objs.size)(I3:Inv X pins σ H3 s3)(lK:∀b∈fp,gR X pins H3 b)(x3:Ext X.K H2 ι2 H3 ι3)(S3:aq X.K H3 ι3 M3)(E2:bC X.K H3 ι3 env σ)(ok:rW X.K H2 ι2 aV J)(h:Zn X.K H3 ι3 Q (iJ aV g ts f nM aV.items (env++Y2 own Yj) M3))(hι:ι3[nM]?=Ya D)(RR:Yd->Ys->n8->Yf->Prop)(fin:∀(acc C:Ys) (s':Yf) (m:aj->Option Yd) (H':Hp),s'.heap.Ns C m->gR X pins H' C->Inv X pins σ H' s'->Q (.ref acc) H'->RR (.ref acc) C (.ok .next) s'):
  Y8 (ao X.prog X.w) X.A (Oc scope X.env.globals (fZ X.env.cells scope.names []) [] X.env.qual Yj .none (Ya X.env)) (λcenv s₄=>jt (ao X.prog X.w) X.A (.compStart (.ListComp elt [⟨tg,iter,ifs,0⟩] scope pos) 0 (.ref it) (.ref D) {cenv with scope:=vh scope X.env}) (RR (.ref D) cenv.locals) s₄) E s3:=by
 refine W4 O.cell (by intro y hy;cases hy) (λh4 hns hsb=>?_) O.kind;have CZ:∀b o,s3.heap.get? b=Ya o->h4.get? b=Ya o:=λb o e=>hsb.extBut b o (dM (Y0 e)) (Yi _ e);have I4:=Zk8 (own:=own) (N':=N') (tk:=s3.toks+([]:List (aj×Yd)).length) I3 O.kind O.cell O.free O.len O.vis lK u5 hns CZ;have Gj:tn 0 h4:=T.keep _ _ _ st3 λb hb o e=>CZ b o e;have L:=ZgP (prog:=X.prog) (w:=X.w) (A:=X.A) (R:=RR (.ref D) s3.heap.objs.size) (scope:=scope) (pos:=pos) (iter:=iter) (elt:=elt) (target:=tg) (ifs:=ifs) (env:=Du scope (fZ X.env.cells scope.names []) s3.heap.objs.size X.env) (Sg ⟨fP X scope N' s3.heap.objs.size (fZ X.env.cells scope.names []) s3 H3 fp,fp,tn,aV,H2,ι2,Q,g,ts,f,nM,D⟩) (λn s5 z=>ZsN (P:=⟨fP X scope N' s3.heap.objs.size (fZ X.env.cells scope.names []) s3 H3 fp,fp,tn,aV,H2,ι2,Q,g,ts,f,nM,D⟩) T hc
  (λhn b hb=>⟨hn b hb,dM (u5 b hb),λhz=>I4.ok.uY b hb hz,.inl hb,λx c hx=>(I4.ok.Ac b hb).2 x c hx,λp hp=>absurd (show p∈([]:List (Ys×aD))from hp) (by simp)⟩)
  (hb _ _ _ _ _) ok z
  λσ' H' s6 I6 q=>I6.loc.elim λm6 Sv=>fin _ _ s6 m6 H' Sv.1 (I3.u0 (Yo _) I6.free) (I3.call' (ch:=fp) I6.os I6.base I6.hok I6.bare λb hb=>⟨(lK b hb).2.2.2.1,(lK b hb).2.1,(lK b hb).2.2.2.2.1,(lK b hb).2.2.2.2.2⟩) q) _
  ⟨0,_,_,_,_,_,I4,Gj,λb hb=>(lK b hb).1,rfl,d8 _,x3,S3,E2.grow own,hι,h⟩
 exact WY L (T.self _ 0 _ _ _ Gj L)
theorem Zmx{s2:Yf}{H2:Hp}{ι2:List Ys}{M2:Store}{tn:Nat->au->Prop}{J:It}{aV:gU}{Q:VK}(O:yC X scope N' own)(hc:X.calm=true)(hb:∀C cl s H ex,CG (fP X scope N' C cl s H ex) tg g/\pW (fP X scope N' C cl s H ex) ifs ts/\C3 (fP X scope N' C cl s H ex) elt f)(I2:Inv X pins σ H2 s2)(T:Turn X.prog X.w X.K tg J fp it tn)(st0:tn 0 s2.heap)(hfp:∀b∈fp,gR X pins H2 b)(S2:aq X.K H2 ι2 M2)(E2:bC X.K H2 ι2 env σ)(ok:rW X.K H2 ι2 aV J)(h:Zn X.K H2 ι2 Q (iJ aV g ts f M2.length aV.items (env++Y2 own Yj) (M2++[.lst []])))(RR:Yd->Ys->n8->Yf->Prop)(fin:∀(acc C:Ys) (s':Yf) (m:aj->Option Yd) (H':Hp),s'.heap.Ns C m->gR X pins H' C->Inv X pins σ H' s'->Q (.ref acc) H'->RR (.ref acc) C (.ok .next) s'):
  Y8 (ao X.prog X.w) X.A (newList []) (λacc s₃=>Y8 (ao X.prog X.w) X.A (Oc scope X.env.globals (fZ X.env.cells scope.names []) [] X.env.qual Yj .none (Ya X.env)) (λcenv s₄=>jt (ao X.prog X.w) X.A (.compStart (.ListComp elt [⟨tg,iter,ifs,0⟩] scope pos) 0 (.ref it) acc {cenv with scope:=vh scope X.env}) (RR acc cenv.locals) s₄) E s₃) E s2:=by
 refine qZ ?_;have hD:H2 s2.heap.objs.size=Yj:=I2.hok.fresh (Yo _);obtain⟨x3,S3,r3⟩:=S2.lst hD (Zm.nil (K:=X.K) (H:=H2) (ι:=ι2));have I3:Inv X pins σ (upd H2 s2.heap.objs.size (.lst [])) {s2 with heap:=s2.heap.push {cls:=.type "list",data:=.seq ([]:List Yd).toArray}}:=I2.laid (t':=s2.toks) (λb u e=>Yi _ e) (Yo _) ⟨d8 _,[],0,.nil,Y1 _ rfl⟩;have wO:∀b o,s2.heap.get? b=Ya o->(s2.heap.push {cls:=.type "list",data:=.seq ([]:List Yd).toArray}).get? b=Ya o:=λb o e=>Yi _ e;generalize hs3:({s2 with heap:=s2.heap.push {cls:=.type "list",data:=.seq ([]:List Yd).toArray}}:Yf)=s3 at I3 ⊢;have wO:∀b o,s2.heap.get? b=Ya o->s3.heap.get? b=Ya o:=by rw[←hs3];exact wO
 have lt2:∀b∈fp,b<s2.heap.objs.size:=λb hb=>(T.obj _ _ st0 b hb).elim λo e=>Y0 e.1;have u5:∀b∈fp,b<s3.heap.objs.size:=λb hb=>(T.obj _ _ st0 b hb).elim λo e=>Y0 (wO b o e.1);exact ZlO O hc hb (T:=T) (st3:=T.keep _ _ _ st0 λb hb o e=>wO b o e) (u5:=u5) (I3:=I3) (lK:=λb hb=>⟨(Zu (dM (lt2 b hb))).trans (hfp b hb).1,(hfp b hb).2⟩) (x3:=x3) (S3:=S3) (E2:=E2.mono x3) (ok:=ok) (h:=h.up x3) (hι:=by rw[←S2.len];simp) RR fin
theorem ux(O:yC X scope N' own)(Bl:X.xe=λ_ _=>False)(hc:X.calm=true)(hi:CI X tg iter i)(hb:∀C cl s H ex,CG (fP X scope N' C cl s H ex) tg g/\pW (fP X scope N' C cl s H ex) ifs ts/\C3 (fP X scope N' C cl s H ex) elt f)(hs:∀x,zr iter X.env x=pure x:=by intro _;rfl):C3 X (.ListComp elt [⟨tg,iter,ifs,0⟩] scope pos) (jx i own g ts f):=by intro pins s σ H Q I h;obtain⟨ι,M,env,S,E,h⟩:=h;obtain⟨aV,M1,e1,h⟩:=Zn.bind h;have hc0:∀y∈scope.names,y.2= .free->∃c,X.env.cells.lookup y.1=Ya c:=λy hy e=>I.ok.has y.1 (O.free y hy e);rw[eval_ListComp];refine N6 (use:=Yj) rfl hs (R9 hc0) O.kind O.names ?_;refine aH (hi pins s σ H (λJ H'=>∃ι',Ext X.K H ι H' ι'/\aq X.K H' ι' M1/\rW X.K H' ι' aV J) I ⟨ι,M,env,S,E,by rw[e1];exactλJ H' ι' x S' o=>⟨ι',x,S',o⟩⟩) λv s1 h1=>aH h1 λitv s2 h2=>?_;obtain⟨it,fp,tn,J,H2,rfl,I2,T,st2,f2,ι2,x2,S2,ok⟩:=h2;refine Zmx (own:=own) (g:=g) (ts:=ts) (f:=f) O hc hb I2 T st2 f2 S2 (E.mono x2) ok (h.up x2) (λacc C=>compPost (ao X.prog X.w) X.A X.xe Yj (EP X pins σ Q) acc C) ?_;intro acc C s' m H' hn hf I' hq;obtain⟨f0,f1,f2',f3,f4,f5⟩:=hf;exact⟨m,hn,λh' sb=>⟨.ref acc,H',I'.turned (t':=s'.toks) (λb o hb e=>(sb.2 b hb).trans e) f0 f1 f3 f4 f5,rfl,hq⟩⟩
end
theorem gF{k:Nat}(r:cD k A):A.units+80<iR:=by have:=r.un;exact lC 1 0x2502b0c12c82b110d0cc11 T1 this
noncomputable def Its(x:aj):It:=⟨λi _=>i<x.cps.size,λi H y H'=>H'=H/\∃c,x.cps[i]?=Ya c/\y= .str ⟨#[c]⟩,λi _=>i=x.cps.size⟩
variable{w:aU}
theorem ZpN{P:aZ}{tg:Expr}{x:aj}{t:eG}{ty:String}(W:∀A':bj,A'.handled=Yj->Walks P w A' it [it] [it] x.cps.size (SignAt x) (λi h=>h.IsStrIter it ty x t i))(hs:∀(A:bj) (i:Nat) (s:Yf) (Q:Yd->Yf->Prop) (E:Yd->Yf->Prop),s.heap.IsStrIter it ty x t i->Q (.ref it) s->Y8 (ao P w) A (zH (.ref it)) Q E s)(hty:["enumerate","zip","dict_itemiterator","dict_reverseitemiterator","odict_iterator","itertools.zip_longest","itertools.pairwise"].contains ty=false):Turn P w K tg (Its x) [it] it (λi h=>h.IsStrIter it ty x t i)where
 mem:=by simp
 obj:=λi h st b hb=>by
  have e:b=it:=by simpa using hb
  subst e;obtain⟨o,e,c,d⟩:=st;exact⟨o,e,λv z=>by rw[d]at z;cases z⟩
 keep:=λi h h' st k=>let⟨o,e,r⟩:=st;⟨o,k it (by simp) o e,r⟩
 item:=by intro X hP hw hK hc i pins s σ H E I hf st hg;subst hP hw hK;obtain⟨f0,f1,f2,f3,f4,f5⟩:=hf it (by simp);refine(W X.A (I.ok.hd hc)).item i s _ _ hg st λv h' tk hv st' kk=>?_;obtain⟨c,u,hx,rfl⟩:=hv;have I1:Inv X pins σ H {s with heap:=h',toks:=tk}:=I.turned (λb o hb e=>kk b o (by simpa using hb) e) f0 f1 f3 f4 f5;obtain⟨o,e,cc,d⟩:=id st';exact⟨_,rfl,JK (s:={s with heap:=h',toks:=tk}) e cc d hty ⟨.str ⟨#[c]⟩,H,I1,⟨u,rfl⟩,⟨rfl,c,hx,rfl⟩,st',λb hb=>(hf b hb).1⟩⟩
 done:=by intro X hP hw hK hc i pins s σ H E I hf st hg;subst hP hw hK;obtain⟨f0,f1,f2,f3,f4,f5⟩:=hf it (by simp);have e:i=x.cps.size:=hg;subst e;exact(W X.A (I.ok.hd hc)).done s _ _ st λh' tk kk=>⟨rfl,I.turned (λb o hb e=>kk b o (by simpa using hb) e) f0 f1 f3 f4 f5⟩
 self:=hs
section
variable {X:Cx} {tg e o:Expr} {es:List Expr} {pos p apos cpos:aP} {f:E3} {gl:cW}
theorem Zvm(h:C3 X e f):PI X tg e (λσ H R=>kZ X.K f σ H λx H1=>∃z:aj,x= .str z/\z.length<=SZ/\∀J,(∀ι,rW X.K H1 ι ⟨z.cps.toList.map λc=>.str [c],Yj⟩ J)->R J H1):=by
 intro pins s σ H R I hw;refine aH (h pins s σ H _ I hw) λv s1 ak=>?_;obtain⟨x,H1,I1,r1,z,ex,hz,q⟩:=ak;subst ex;obtain⟨t,rfl⟩:=r1;have key:∀(ty:String) (o:aD),(∀A':bj,A'.handled=Yj->Walks X.prog X.w A' s1.heap.objs.size [s1.heap.objs.size] [s1.heap.objs.size] z.cps.size (SignAt z) (λi h=>h.IsStrIter s1.heap.objs.size ty z t i)) ->
   (∀(A:bj) (i:Nat) (s:Yf) (Q:Yd->Yf->Prop) (E:Yd->Yf->Prop),s.heap.IsStrIter s1.heap.objs.size ty z t i->Q (.ref s1.heap.objs.size) s->Y8 (ao X.prog X.w) A (zH (.ref s1.heap.objs.size)) Q E s) ->
   ["enumerate","zip","dict_itemiterator","dict_reverseitemiterator","odict_iterator","itertools.zip_longest","itertools.pairwise"].contains ty=false->(s1.heap.push o).IsStrIter s1.heap.objs.size ty z t 0 ->
   PIE X pins σ tg R (.ref s1.heap.objs.size) {s1 with heap:=s1.heap.push o}:=by
  intro ty o W hs hty st;refine⟨s1.heap.objs.size,[s1.heap.objs.size],_,_,H1,rfl,I1.kept (t':=s1.toks) λb o e=>Yi _ e,ZpN W hs hty,st,λb hb=>?_,q _ λι=>?_⟩
  .have e:b=s1.heap.objs.size:=by simpa using hb
   subst e;exact I1.u0 (Yo _) (I1.hok.fresh (Yo _))
  .intro i H2 ι2 M2 x S _;refine⟨λd hd=>?_,λhl=>?_⟩
   .rw[ou]at hd;cases hq:z.cps.toList[i]? with
    |none=>rw[hq]at hd;cases hd|some c=>
     rw[hq]at hd;have hd':D.str [c]=d:=by simpa using hd
     subst hd';have hi:i<z.cps.size:=by have:=(Yh.mp hq).1;simpa using this
     refine⟨hi,λy H3 hy=>⟨hy.1,?_⟩⟩;obtain⟨_,c',hc',rfl⟩:=hy;have:c'=c:=by rw[←Qd,hq]at hc';exact(Y9 hc').symm
     subst this;exact Rep.str
   .show i=z.cps.size;rw[hl];simp
 cases ha:z.cps.all (· <128)
 .exact wpAny_pyIter_wide ha (key "str_iterator" _ (λA' hA=>Walks.strWide hA _ z t) (λ_ _ _ _ _ st h=>wpAny_pyIter_striter_wide st h) (by decide) ⟨_,Y1 _ rfl,rfl,rfl⟩)
 .exact wpAny_pyIter_ascii ha (key "str_ascii_iterator" _ (λA' hA=>Walks.strAscii hA _ z t) (λ_ _ _ _ _ st h=>wpAny_pyIter_striter_ascii st h) (by decide) ⟨_,Y1 _ rfl,rfl,rfl⟩)
theorem nC(h:C3 X e f):CI X tg e (eQ f):=Zvu h (Zvm h)
theorem Kv{T:String}{ty:D->Store->Bool}{m:D->List D->Store->R3 D}(hty:∀H ι M a x,aq K H ι M->Rep K H ι a x->ty a M=true->x_ K T x H)(σ:St)(H:Hp)(Q:VK)(h:kZ K (bB ty m f gl) σ H Q):tBM K T (rM K m) (kZ K f) (RT K gl) σ H Q:=by
 obtain⟨ι,M,env,S,E,h⟩:=h;obtain⟨a,M1,e1,h⟩:=Zn.bind h;refine⟨ι,M,env,S,E,?_⟩;rw[e1];intro v H1 ι1 x1 S1 r1;by_cases ht:ty a M1=true
 .rw[if_pos ht]at h;obtain⟨ds,M2,e2,h⟩:=Zn.bind h;refine⟨hty _ _ _ _ _ S1 r1 ht,ι1,M1,env,S1,E.mono x1,?_⟩;rw[e2];intro vs H2 ι2 x2 S2 r2;exact⟨ι2,M2,a,ds,S2,r1.mono x2,r2,(h.up x1).up x2⟩
 .rw[if_neg ht]at h;exact h.elim
theorem Sw(H:Hp)(ι:List Ys)(M:Store)(a:D)(x:V)(_:aq K H ι M)(r:Rep K H ι a x)(h:iw a M=true):x_ K "str" x H:=by
 cases a with
 |str z=>rw[r.str_inv];rfl|_=>exact ft h
theorem Zpy(H:Hp)(ι:List Ys)(M:Store)(a:D)(x:V)(S:aq K H ι M)(r:Rep K H ι a x)(h:dF a M=true):x_ K "list" x H:=by
 cases a with
 | ref n=>
  rw[J2]at h;cases hn:M[n]? with
  |none=>rw[hn]at h;exact ft h|some o=>
   cases o with
   |dct _=>rw[hn]at h;exact ft h|cV _=>rw[hn]at h;exact ft h|ins _ _=>rw[hn]at h;exact ft h|lst xs=>obtain⟨p,hp,rfl⟩:=r.e_;obtain⟨vs,e,_⟩:=S.obj n _ p hn hp;exact .inl ⟨rfl,vs,bD.of e⟩
 |_=>exact ft h
theorem _root_._L2.m5.imp{id:String}{r r':V->List V->Hp->VK->Prop}(h:m5 X id r)(i:∀x xs H Q,r' x xs H Q->r x xs H Q):m5 X id r':=λpins s σ H x xs v us Q I rx rs q=>h pins s σ H x xs v us Q I rx rs (i x xs H Q q)
theorem ZqZ:m5 X "list.append" (rM X.K d9):=m5.imp (r:=ZnR) Ri λx xs H Q ak=>by
 obtain⟨ι,M,a,ds,S,ra,rd,h⟩:=ak;cases a with
 | ref n=>
  cases ds with
  |nil=>exact h.elim|cons d ds=>
   cases ds with
   |cons _ _=>exact h.elim|nil=>
    simp only[RB]at h;cases hn:M[n]? with
    |none=>simp only[hn]at h;exact h.elim|some o=>
     cases o with
     |dct _=>simp only[hn]at h;exact h.elim|cV _=>simp only[hn]at h;exact h.elim|ins _ _=>simp only[hn]at h;exact h.elim|lst z=>
      simp only[hn]at h;split at h
      .rename_i hz;obtain⟨p,hp,rfl⟩:=ra.e_;obtain⟨v,ws,rfl,r1,r2⟩:=rd.cons_inv;have:=r2.nil_inv;subst this;obtain⟨vs,e,rv⟩:=S.obj n _ p hn hp;obtain⟨x2,S2⟩:=S.Df (.inr (.inl ⟨_,e⟩)) hp (rv.append (Zm.cons r1 Zm.nil));exact⟨p,vs,v,rfl,rfl,e,by rw[rv.length];exact Y6 hz l_,h _ _ _ x2 S2 Rep.non⟩
      .exact h.elim
 |_=>exact h.elim
theorem o4(ho:C3 X o f)(ha:CA X (e::es) gl)(hbase:autoParam (mO o "append" X.env (aF o X.env)=aF o X.env) qA)(hfew:((bK cpos (Yq (e::es) X.env)).all (λx=>!x.1)&&(iC cpos (iB [] X.env)).all (λx=>x.1.isSome)
   &&decide ((e::es).length+([]:List Keyword).length+(if([]:List Keyword).isEmpty then 0 else 1)<30))=true:=by rfl)(hline:autoParam ((apos.endLine==cpos.line)=true) qA)(hs:autoParam (Yq (e::es) X.env=(false,aF e X.env)::Yq es X.env) qA)(hplain:autoParam ((bK cpos (Yq es X.env)).any (·.1)=false) qA):
  C3 X (.Call (.Attribute o "append" apos) (e::es) [] cpos) (bB dF d9 f gl):=
 (JR ZV PySem.F.slot_list_append PySem.F.type_list_append ZqZ ho ha hbase hfew hline hs hplain).imp (Kv Zpy)
theorem Zs1(x y:List Nat):Ymo (⟨x.toArray⟩:aj) ⟨y.toArray⟩=y.isPrefixOf x:=by
 unfold Ymo Builtin.Str.subAt;simp only[pJ,Yt,tV];rw[Px];simp only[Y5,decide_eq_true_eq,beq_iff_eq,List.isPrefixOf_iff_prefix];constructor
 .rintro⟨_,h⟩;have h':=congrArg z8 h;simp at h';rw[Xm];exact h'.symm
 .intro h;refine⟨h.length_le,?_⟩;rw[Xm]at h;apply Array.toList_inj.mp;simp;exact h.symm
theorem m_startswith:m5 X "str.startswith" (rM X.K rN):=by
 intro pins s σ H x xs v us Q I rx rs h;obtain⟨ι,M,a,ds,S,ra,rd,h⟩:=h;cases a with
 | str z=>
  cases ds with
  |nil=>exact h.elim|cons d ds=>
   cases ds with
   |cons _ _=>cases d<;>exact h.elim|nil=>
    cases d with
    | str y=>
     simp only[Fl]at h;split at h
     .have:=ra.str_inv;subst this;obtain⟨w',ws,rfl,r1,r2⟩:=rd.cons_inv;have:=r2.nil_inv;subst this;have:=r1.str_inv;subst this;obtain⟨t,rfl⟩:=rx;obtain⟨u,rfl,ru⟩:=vals1 rs;obtain⟨t',rfl⟩:=ru;refine SC.startswith ?_;rw[Zs1];exact⟨.bl _,H,I,rfl,Zn.ok h S Rep.bl⟩
     .exact h.elim
    |_=>exact h.elim
 |_=>exact h.elim
theorem Zek(ho:C3 X o f)(ha:CA X (e::es) gl)(hbase:autoParam (mO o "startswith" X.env (aF o X.env)=aF o X.env) qA)(hfew:((bK cpos (Yq (e::es) X.env)).all (λx=>!x.1)&&(iC cpos (iB [] X.env)).all (λx=>x.1.isSome)
   &&decide ((e::es).length+([]:List Keyword).length+(if([]:List Keyword).isEmpty then 0 else 1)<30))=true:=by rfl)(hline:autoParam ((apos.endLine==cpos.line)=true) qA)(hs:autoParam (Yq (e::es) X.env=(false,aF e X.env)::Yq es X.env) qA)(hplain:autoParam ((bK cpos (Yq es X.env)).any (·.1)=false) qA):
  C3 X (.Call (.Attribute o "startswith" apos) (e::es) [] cpos) (bB iw rN f gl):=
 (JR Qi PySem.F.slot_str_startswith PySem.F.type_str_startswith m_startswith ho ha hbase hfew hline hs hplain).imp (Kv Sw)
theorem ZwK:bh X (fX .In) (r2 X.K λa b M=>match a,b with| .str [c],.str y=>.ok (.bl (decide (c∈y))) M|_,_=>.bad):=bh.imp ZoE λx y H Q ak=>by
 obtain⟨ι,M,a,b,S,ra,rb,h⟩:=ak;cases a with
 | str z=>
  cases z with
  |nil=>cases b<;>exact h.elim|cons c z=>
   cases z with
   |cons _ _=>cases b<;>exact h.elim|nil=>
    cases b with
    |str y=>refine⟨_,_,ra.str_inv,rb.str_inv,?_⟩;have e:=StrLaws.found_one (⟨y.toArray⟩:aj) c;rw[show(⟨[c].toArray⟩:aj)=⟨#[c]⟩from rfl,e];exact Zn.ok h S Rep.bl|_=>exact h.elim
 |_=>cases b<;>exact h.elim
end
variable{prog:aZ}{items:Array Yd}{Q:Yd->Yf->Prop}
section
variable {X:Cx}
theorem Bs(hu:X.A.units+80<iR):bh X (fX .NotEq) (r2 X.K iI):=by
 intro pins s σ H x y v u Q I rx ry h;obtain⟨ι,M,a,b,S,ra,rb,h⟩:=h;unfold iI at h;cases q:oN a b M with
 |none=>rw[q]at h;exact h.elim|some k=>rw[q]at h;exact(Km hu I S ra rb rx ry q).2 X.prog X.w X.xe _ ⟨.bl (!k),H,I,rfl,Zn.ok h S Rep.bl⟩
theorem Zlt(r:Rep K H ι d v)(h:b8 d=true):rH v=true:=by
 cases d with
 |non=>rw[r.iM];rfl|bl b=>rw[r.gC];rfl|int i=>rw[r.int_inv];rfl|str x=>rw[r.str_inv];rfl
 |_=>exact ft h
theorem Zsp(x y:List Nat):((⟨x.toArray⟩:aj)==⟨y.toArray⟩)=(x==y):=by rw[Px];simp
theorem Zti{e:D}{w:V}(r:Rep K H ι d v)(q:Rep K H ι e w)(h:b8 d=true)(h':b8 e=true):uc v w=cG d e:=by
 cases d with
 |non=>rw[r.iM];cases e with
  |non=>rw[q.iM];rfl|bl _=>rw[q.gC];rfl|int _=>rw[q.int_inv];rfl|str _=>rw[q.str_inv];rfl
  |_=>exact ft h'
 |bl _=>rw[r.gC];cases e with
  |non=>rw[q.iM];rfl|bl _=>rw[q.gC];rfl|int _=>rw[q.int_inv];rfl|str _=>rw[q.str_inv];rfl
  |_=>exact ft h'
 |int _=>rw[r.int_inv];cases e with
  |non=>rw[q.iM];rfl|bl _=>rw[q.gC];rfl|int _=>rw[q.int_inv];rfl|str _=>rw[q.str_inv];rfl
  |_=>exact ft h'
 |str _=>rw[r.str_inv];cases e with
  |non=>rw[q.iM];rfl|bl _=>rw[q.gC];rfl|int _=>rw[q.int_inv];rfl|str _=>rw[q.str_inv];exact Zsp _ _
  |_=>exact ft h'
 |_=>exact ft h
theorem Zn6{K:Yb}{H:Hp}{ι:List Ys}{d:D}{v:V}(r:Rep K H ι d v)(h:b8 d=true):∀{ds:List D} {vs:List V},Zm K H ι ds vs->ds.all b8=true->vs.all rH=true/\inV v vs=ds.any λy=>cG y d
 |[],_,q,_=>by rw[q.nil_inv];exact⟨rfl,rfl⟩|e::ds,_,q,hd=>by obtain⟨w,ws,rfl,r1,r2⟩:=q.cons_inv;rw[iU,Y5]at hd;obtain⟨h1,h2⟩:=Zn6 r h r2 hd.2;refine⟨by rw[iU,Zlt r1 hd.1,h1];rfl,?_⟩;unfold inV at h2 ⊢;rw[jY,jY,h2,Zti r1 r hd.1 h]
inductive InK(a b:D)(k:Bool):Prop
 |tup (ys:List D):b= .tup ys->(ys.any λy=>cG y a)=k->b8 a=true->ys.all b8=true->InK a b k
 |str (c:Nat) (y:List Nat):a= .str [c]->b= .str y->decide (c∈y)=k->InK a b k
theorem inK{a b:D}{k:Bool}(h:inD a b=Ya k):InK a b k:=by
 cases b with
 |tup ys=>exact have w:=R6 h;.tup ys rfl w.1 w.2.1 w.2.2|str y=>
  cases a with
  | str z=>cases z with
   |nil=>exact iH h|cons c z=>cases z with
    |nil=>exact .str c y rfl rfl (Y9 h)|cons _ _=>exact iH h
  |_=>exact iH h
 |_=>exact iH h
theorem Zuj{Q:VK}{a:D}{ys:List D}{x y:V}(n:Bool)(ra:Rep K H ι a x)(rb:Rep K H ι (.tup ys) y)(fa:b8 a=true)(fs:ys.all b8=true)(q:Q (.bl (if n then !(ys.any λy=>cG y a)else ys.any λy=>cG y a)) H):rIn K n x y H Q:=by obtain⟨p,vs,e,s,r⟩:=rb.jk;obtain⟨h1,h2⟩:=Zn6 ra fa r fs;exact⟨p,vs,e,.inr s,Zlt ra fa,h1,by rw[h2];exact q⟩
theorem Sx(hu:X.A.units+80<iR):bh X (fX .In) (r2 X.K kj):=bh.imp (bh.or ZwK Zo8) λx y H Q ak=>by
 obtain⟨ι,M,a,b,S,ra,rb,h⟩:=ak;unfold kj at h;cases q:inD a b with
 |none=>rw[q]at h;exact h.elim|some k=>
  rw[q]at h;rcases inK q with⟨ys,eb,ek,fa,fs⟩|⟨c,z,ea,eb,ek⟩
  .rw[eb]at rb;rw[←ek]at h;exact .inr (Zuj false ra rb fa fs (Zn.ok h S Rep.bl))
  .rw[ea]at ra;rw[eb]at rb;rw[←ek]at h;exact .inl ⟨ι,M,_,_,S,ra,rb,h⟩
theorem Zm.repl(r:Zm K H ι ds vs):∀k:Nat,Zm K H ι (Y2 k ds).flatten (Y2 k vs).flatten
 |0=>Zm.nil|k+1=>by rw[Xv,Xv,zT,zT];exact r.append (Zm.repl r k)
theorem Zn8(n d:Nat)(hd:d<=n)(o:Option Int):(match o with|none=>(d:Int)|some i=>mV 0 (ir (if i<0 then i+(n:Int)else i) (n:Int)))=((aA n d o:Nat):Int):=by
 cases o with
 |none=>rfl|some v=>
  show mV 0 (ir (if v<0 then v+(n:Int)else v) (n:Int))=(((if v<0 then(v+(n:Int)).toNat else ir v.toNat n):Nat):Int);by_cases h:v<0
  .rw[if_pos h,if_pos h];exact QC v n h
  .rw[if_neg h,if_neg h];exact QD v n h
theorem Zhr(lo hi:Option Int)(n:Nat):Je lo hi 1 n=(iV (aA n n hi-aA n 0 lo)).map (λk=>aA n 0 lo+k):=by
 have e1:=Zn8 n 0 (d8 _) lo;have e2:=Zn8 n n (Yo _) hi;have key:Je lo hi 1 n=sliceRange ((aA n 0 lo:Nat):Int) ((aA n n hi:Nat):Int) 1:=by rw[←e1,←e2];simp only[Je,show((1:Int)>0)=True from by simp,if_true];cases lo<;>cases hi<;>rfl
 rw[key];generalize aA n 0 lo=a;generalize aA n n hi=b;simp only[sliceRange,show((1:Int)>0)=True from by simp,if_true];by_cases hlt:(a:Int)<b
 .have e3:(((b:Int)-a+1-1) / 1).toNat=b-a:=by first|exact gn (iN [_,_,_,_] [_] 3 0x230038a112c001aa1808fcf001d81 T1 (Int.mul_ediv_self_le (by decide)) (jH _ _) (zZ (iN [_,_] [_] 2 0xe8a001dcaa0818fcf91180891 T1 hlt (ZD (by decide))))) (iN [_,_,_,_] [_] 3 0x230013c2128081a001dcaa1808fcf91 T1 (ZD (by decide)) (Jf _) (j4 (iN [_,_] [] 1 4296542353 T1 hlt)))|(simp;done)|(simp;omega)
  simp only[hlt,if_true,e3];refine Xw λk _=>?_;exact gn (iN [_,_,_] [] 1 0x21c002801d18c08a1 T1 (zZ (iN [_,_] [] 0 103109659880 T1))) (iN [_,_,_] [] 1 0x210c0281801d08c81 T1 (Jf _))
 .have:b-a=0:=gn (tW (X5 (iN [_,_] [] 1 270010577 T1 hlt))) (d8 _);simp[hlt,this]
theorem JQ(n d:Nat)(hd:d<=n)(o:Option Int):aA n d o<=n:=by
 cases o with
 |none=>exact hd|some v=>simp only[aA];split <;>omega
theorem Zmn(z:List Nat)(lo hi:Option Int)(l u:Option (Int×eG))(hl:l.map (·.1)=lo)(hu:u.map (·.1)=hi):
  (if((1:Int)==1&&(xj ⟨z.toArray⟩ l u Yj).length==(⟨z.toArray⟩:aj).length)=true then(⟨z.toArray⟩:aj)else⟨((xj ⟨z.toArray⟩ l u Yj).filterMap ((⟨z.toArray⟩:aj).cps[·]?)).toArray⟩)=⟨(cutD z lo hi).toArray⟩:=by
 have e0:xj ⟨z.toArray⟩ l u Yj=(iV (aA z.length z.length hi-aA z.length 0 lo)).map (λk=>aA z.length 0 lo+k):=by unfold xj;rw[hl,hu];simp only[pJ,Yt];exact Zhr lo hi z.length
 have hb:=JQ z.length z.length (Yo _) hi;rw[e0];have pick:((iV (aA z.length z.length hi-aA z.length 0 lo)).map (λk=>aA z.length 0 lo+k)).filterMap ((⟨z.toArray⟩:aj).cps[·]?)=cutD z lo hi:=by
  unfold cutD;by_cases hab:aA z.length 0 lo<=aA z.length z.length hi
  .have h:=StrLaws.picks z (aA z.length z.length hi-aA z.length 0 lo) (aA z.length 0 lo) (lD 2 82120338080600065 T1 hb (j4 hab));simpa using h
  .have:aA z.length z.length hi-aA z.length 0 lo=0:=gn (tW (X5 (lB 1 1052737 T1 hab))) (d8 _);rw[this];simp
 rw[pick];split
 .rename_i hc;simp only[Yw,O4,pJ,Yt,Y5,beq_iff_eq]at hc;have hc2:=hc.2;have h0:aA z.length 0 lo=0\/z.length=0:=by omega
  have:cutD z lo hi=z:=by
   unfold cutD;rcases h0 with h0|h0
   .rw[h0,DN,zK (by exact lD 3 0x3102001e3c2011031 T1 hc2 (jH _ _) (DW _ _))]
   .have:z=[]:=Ow h0;subst this;simp
  rw[this]
 .rfl
theorem ZtN:jm X (λx lo hi H Q=>∃z:List Nat,x= .str ⟨z.toArray⟩/\z.length<=SZ/\Q (.str ⟨(cutD z lo hi).toArray⟩) H):=by
 intro pins s σ H x v vl vu lo hi sl Q I rx hs pl pu h;obtain⟨z,rfl,hz,q⟩:=h;obtain⟨t,rfl⟩:=rx;have part:∀{v:Yd} {o:Option Int},IsPart v o->∃p:Option (Int×eG),v=partValue p/\p.map (·.1)=o:=by
  intro v o h;cases h with
  |none=>exact⟨Yj,rfl,rfl⟩|int i t=>exact⟨Ya (i,t),rfl,rfl⟩
 obtain⟨l,rfl,hl⟩:=part pl;obtain⟨u,rfl,hu⟩:=part pu;refine⟨"str",_,PySem.F.slot_str_getitem.lookup,zA _ _ _,?_⟩;refine wpAny_getItem_str_slice (l:=l) (u:=u) (st:=Yj) hs rfl ?_;unfold sliceMade;refine post_val_or_made (λ_=>?_) λt' k=>?_
 .show((xj ⟨z.toArray⟩ l u Yj).filterMap ((⟨z.toArray⟩:aj).cps[·]?)).toArray.size<=bF;rw[Yt];refine Yp (Xl _ _) ?_;show(Je (l.map (·.1)) (u.map (·.1)) 1 (⟨z.toArray⟩:aj).length).length<=bF;rw[Zhr];simp only[Yw,O4,pJ,Yt];have:=JQ z.length z.length (Yo _) (u.map (·.1));have:=l_;omega
 .have e:=Zmn z lo hi l u hl hu;have e':(if(((Yj:Option (Int×eG)).map (·.1)).getD 1==1&&(xj ⟨z.toArray⟩ l u Yj).length==(⟨z.toArray⟩:aj).length)=true then(⟨z.toArray⟩:aj)else⟨((xj ⟨z.toArray⟩ l u Yj).filterMap ((⟨z.toArray⟩:aj).cps[·]?)).toArray⟩)=⟨(cutD z lo hi).toArray⟩:=e;rw[e'];exact⟨.str _,H,I.tok _,⟨_,rfl⟩,q⟩
theorem ZfT{t sl:Ys}{vl vu:Yd}{lo hi:Option Int}(ht:IsTup s.heap t items)(hs:s.heap.IsSliceOf sl vl vu .none)(pl:IsPart vl lo)(pu:IsPart vu hi)(hw:_HT.aA items.size 0 lo=0/\_HT.aA items.size items.size hi=items.size)(h:Q (.ref t) s):Y8 (ao prog w) A (pG (.ref t) (.ref sl)) Q E s:=by
 obtain⟨os,hos,hcs,hds⟩:=id hs;have hTs:s.TypeIs (.ref sl) "slice":=⟨os,hos,hcs⟩;unfold pG
 try with_reducible refine h_ ?_
 first|refine Yc (Yn ?_)|skip
 refine Yc (N7 ht.typeIs (by decide) ?_);refine Yc (wV (name:=lV "__getitem__") ht.typeIs Jc
  (u_ Jc ht.typeIs YS ?_ (YW _ _)))
 show Y8 _ _ (Z7 (.ref t)>>=_) _ _ s;refine Yc (tupleItemsOf_ ht ?_);refine Yc (HX hTs ?_);rw[if_pos (by decide)];refine Yc (_HT.Vv hs pl pu ?_);have AcJ:(((_HT.aA items.size 0 lo:Nat):Int)==0&&(1:Int)==1&&(_HT.aA items.size items.size hi-_HT.aA items.size 0 lo)==items.size)=true:=by rw[hw.1,hw.2];simp
 show Y8 _ _ (if(((_HT.aA items.size 0 lo:Nat):Int)==0&&(1:Int)==1&&(_HT.aA items.size items.size hi-_HT.aA items.size 0 lo)==items.size)=true then _ else _) _ _ s;rw[if_pos AcJ];unfold Builtin.Tuple.tupleIsExact;refine Yc (Yc (HX ht.typeIs (Yn ?_)));rw[if_pos (by decide)];exact Yc (Ib (Yn ⟨_,rfl,Yn h⟩))
theorem ZsZ:jm X (λx lo hi H Q=>∃a xs,x= .ref a/\cM X.K H a xs/\(_HT.aA xs.length 0 lo=0/\_HT.aA xs.length xs.length hi=xs.length)/\Q (.ref a) H):=by
 intro pins s σ H x v vl vu lo hi sl Q I rx hs pl pu h;obtain⟨a,xs,rfl,hx,hw,q⟩:=h;cases rx;obtain⟨its,r,ht,hz⟩:=I.tuple hx;have hlen:its.toArray.size=xs.length:=by rw[Yt];exact r.length.symm
 refine⟨"tuple",_,PyProof.Rows.slot_tuple_getitem.lookup,ht.typeIs,?_⟩;exact ZfT ht hs pl pu (by rw[hlen];exact hw) ⟨.ref a,H,I,rfl,q⟩
theorem mD:jm X (rS X.K):=jm.imp (jm.or (jm.or Zuv ZsZ) (jm.or Zr1 ZtN)) λx lo hi H Q ak=>by
 obtain⟨ι,M,a,S,ra,h⟩:=ak;have ex:∀n d o,_HT.aA n d o=aA n d o:=λn d o=>by cases o<;>rfl
 cases a with
 | tup ds=>
  simp only[Fd,Fe,Ff,Aq]at h;obtain⟨p,vs,rfl,s,r⟩:=ra.jk;by_cases hw:aA ds.length 0 lo=0/\aA ds.length ds.length hi=ds.length
  .refine .inl (.inr ⟨p,vs,rfl,s,by rw[ex,ex,r.length];exact hw,?_⟩);have e:cutD ds lo hi=ds:=by unfold cutD;rw[hw.1,hw.2];simp
   rw[e]at h;exact Zn.ok h S (Rep.tup s r)
  .refine .inl (.inl ⟨p,vs,rfl,s,by rw[ex,ex,r.length];exact hw,λq hq=>?_⟩);obtain⟨x2,S2,r2⟩:=S.tE hq (R8 r lo hi);exact h _ _ _ x2 S2 r2
 |a_ ds=>simp only[Fd,Fe,Ff,Aq]at h;obtain⟨p,vs,rfl,s,r⟩:=ra.uW;refine .inr (.inl ⟨p,vs,rfl,s.sq,λq hq=>?_⟩);obtain⟨x2,S2,r2⟩:=S.lst hq (R8 r lo hi);exact h _ _ _ x2 S2 r2|str z=>
  simp only[Fd,Fe,Ff,Aq]at h;split at h
  .rename_i hz;exact .inr (.inr ⟨z,ra.str_inv,hz,Zn.ok h S Rep.str⟩)
  .exact h.elim
 | ref n=>
  simp only[Fd,Fe,Ff,Aq]at h;cases hn:M[n]? with
  |none=>simp only[hn]at h;exact h.elim|some o=>
   cases o with
   |dct _=>simp only[hn]at h;exact h.elim|cV _=>simp only[hn]at h;exact h.elim|ins _ _=>simp only[hn]at h;exact h.elim|lst ds=>simp only[hn]at h;obtain⟨p,hp,rfl⟩:=ra.e_;obtain⟨vs,e,r⟩:=S.obj n _ p hn hp;refine .inr (.inl ⟨p,vs,rfl,bD.of e,λq hq=>?_⟩);obtain⟨x2,S2,r2⟩:=S.lst hq (R8 r lo hi);exact h _ _ _ x2 S2 r2
 |_=>exact h.elim
theorem Bt{xs:List V}(r:Zm K H ι [d] xs):∃x,xs=[x]/\Rep K H ι d x:=by obtain⟨v,ws,rfl,r1,r2⟩:=r.cons_inv;have:=r2.nil_inv;subst this;exact⟨v,rfl,r1⟩
theorem fJ:cN X (.builtin "len") (rB X.K bx):=cN.imp Zq6 λxs H Q ak=>by
 obtain⟨ι,M,ds,S,rd,h⟩:=ak;cases ds with
 |nil=>exact h.elim|cons d ds=>
  cases ds with
  |cons _ _=>cases d<;>exact h.elim|nil=>
   obtain⟨x,rfl,r⟩:=Bt rd;cases d with
   |tup z=>obtain⟨p,vs,rfl,s,r'⟩:=r.jk;exact⟨_,vs.length,rfl,.inr ⟨vs,s,rfl⟩,by rw[r'.length];exact Zn.ok h S Rep.int⟩|a_ z=>obtain⟨p,vs,rfl,s,r'⟩:=r.uW;exact⟨_,vs.length,rfl,.inl ⟨vs,s.sq,rfl⟩,by rw[r'.length];exact Zn.ok h S Rep.int⟩|str z=>
    simp only[Fg,Fi,Fj,uf]at h;split at h
    .rename_i hz;have:=r.str_inv;subst this;refine⟨_,z.length,rfl,⟨?_,?_⟩,Zn.ok h S Rep.int⟩
     .show z.toArray.size<=bF;rw[Yt];exact Yp hz l_
     .show z.length=z.toArray.size;rw[Yt]
    .exact h.elim
   | ref n=>
    cases hn:M[n]? with
    |none=>rw[uf,hn]at h;exact h.elim|some o=>
     cases o with
     |dct _=>rw[uf,hn]at h;exact h.elim|cV _=>rw[uf,hn]at h;exact h.elim|ins _ _=>rw[uf,hn]at h;exact h.elim|lst z=>simp only[Fg,Fi,Fj,uf,hn]at h;obtain⟨p,hp,rfl⟩:=r.e_;obtain⟨vs,e,r'⟩:=S.obj n _ p hn hp;exact⟨_,vs.length,rfl,.inl ⟨vs,bD.of e,rfl⟩,by rw[r'.length];exact Zn.ok h S Rep.int⟩
   |_=>exact h.elim
theorem rY:cN X (.type "tuple") (rB X.K gY):=cN.imp Zjg λxs H Q ak=>by
 obtain⟨ι,M,ds,S,rd,h⟩:=ak;cases ds with
 |nil=>exact h.elim|cons d ds=>
  cases ds with
  |cons _ _=>cases d<;>exact h.elim|nil=>
   obtain⟨x,rfl,r⟩:=Bt rd;cases d with
   |tup z=>obtain⟨p,vs,rfl,s,r'⟩:=r.jk;exact⟨p,vs,rfl,.inr ⟨s,Zn.ok h S (Rep.tup s r')⟩⟩|a_ z=>obtain⟨p,vs,rfl,s,r'⟩:=r.uW;refine⟨p,vs,rfl,.inl ⟨s.sq,λq hq=>?_⟩⟩;obtain⟨x2,S2,r2⟩:=S.tE hq r';exact h _ _ _ x2 S2 r2|ref n=>
    cases hn:M[n]? with
    |none=>rw[Ar,hn]at h;exact h.elim|some o=>
     cases o with
     |dct _=>rw[Ar,hn]at h;exact h.elim|cV _=>rw[Ar,hn]at h;exact h.elim|ins _ _=>rw[Ar,hn]at h;exact h.elim|lst z=>simp only[Zjy,Zjr,Ar,hn]at h;obtain⟨p,hp,rfl⟩:=r.e_;obtain⟨vs,e,r'⟩:=S.obj n _ p hn hp;refine⟨p,vs,rfl,.inl ⟨bD.of e,λq hq=>?_⟩⟩;obtain⟨x2,S2,r2⟩:=S.tE hq r';exact h _ _ _ x2 S2 r2
   |_=>exact h.elim
end
theorem eV:jr "len" =Ya (.builtin "len"):=by decide +kernel
theorem Bu:jr "all" =Ya (.builtin "all"):=by decide +kernel
theorem ZfK:jr "isinstance" =Ya (.builtin "isinstance"):=by decide +kernel
theorem Sy:jr "int" =Ya (.type "int"):=by decide +kernel
theorem Zqt:jr "str" =Ya (.type "str"):=by decide +kernel
theorem rZ:jr "tuple" =Ya (.type "tuple"):=by decide +kernel
section
variable {X:Cx} {a:Expr} {pos p p2:aP} {f:E3}
noncomputable def eX:m7->String
 | .int=>"int" | .bool=>"bool" | .str=>"str" | .list=>"list" | .tuple=>"tuple"
theorem yD(K:Yb)(t:String)(T:m7)(ht:t∈["NoneType","bool","int","str","list","tuple","dict"]):
  WQ K (.type t) (.type (eX T))=Ya (t==eX T|| (t== "bool" &&eX T== "int")):=by
 simp only[Ym,ig,or_false]at ht;rcases ht with rfl|rfl|rfl|rfl|rfl|rfl|rfl <;>cases T<;>kernel_rfl
theorem SJ(T:m7):jr (eX T)=Ya (.type (eX T)):=by cases T<;>decide +kernel
noncomputable def Zwc(T:m7)(o:Option MO):Option Bool:=match o with
 |some (.lst _)=>Ya (T== .list)|some (.dct _)=>Ya false|some (.cV _)=>Yj|some (.ins _ _)=>Yj
 |none=>Yj
theorem Zr3{T:m7}{x:V}{b:Bool}(I:Inv X pins σ H s)(S:aq X.K H ι M)(r:Rep X.K H ι d x)(ru:RelV x u)(e:ju T d M=Ya b)(h:∀tk,Q (.bool b) {s with toks:=tk}):Y8 (ao X.prog X.w) A (call (.builtin "isinstance") [u,.type (eX T)]) Q E s:=by
 cases d with
 |non=>rw[r.iM]at ru;exact Ah I ru .non ((yD X.K "NoneType" T (by decide)).trans (vL (by cases T<;>rfl) e)) h|bl c=>rw[r.gC]at ru;exact Ah I ru (.bl c) ((yD X.K "bool" T (by decide)).trans (vL (by cases T<;>rfl) e)) h|int i=>rw[r.int_inv]at ru;exact Ah I ru (.int i) ((yD X.K "int" T (by decide)).trans (vL (by cases T<;>rfl) e)) h|str z=>rw[r.str_inv]at ru;exact Ah I ru (.str _) ((yD X.K "str" T (by decide)).trans (vL (by cases T<;>rfl) e)) h
 |tup ds=>obtain⟨p,vs,its,_,eu,⟨o,h1,h2,_⟩,_⟩:=Br I r ru;rw[eu];exact nY Nq I.bN ⟨o,h1,h2⟩ ((yD X.K "tuple" T (by decide)).trans (vL (by cases T<;>rfl) e)) (λz=>nomatch z) h|a_ ds=>exact iH e|ref n=>
  have e:Zwc T M[n]?=Ya b:=e;obtain⟨a,ha,ex⟩:=r.e_;rw[ex]at ru;cases hn:M[n]? with
  |none=>rw[hn]at e;exact iH e|some o=>
   rw[hn]at e;cases o with
   |lst z=>obtain⟨vs,ev,_⟩:=S.obj n _ a hn ha;exact Ah I ru (.lst ev) ((yD X.K "list" T (by decide)).trans (vL (by cases T<;>rfl) e)) h|dct z=>obtain⟨vs,ev,_⟩:=S.obj n _ a hn ha;exact Ah I ru (.dK ev) ((yD X.K "dict" T (by decide)).trans (vL (by cases T<;>rfl) e)) h|cV z=>exact iH e|ins _ _=>exact iH e
theorem uy(T:m7){x:aj}(hm:X.mg "isinstance" =Yj)(hm2:X.mg x=Yj)(h:C3 X a f)(hx:autoParam (x=(lV (eX T))) qA)(hg:autoParam (Gl X "isinstance") qA)(hg2:autoParam (Gl X x) qA)(hn:autoParam (x≠ "__name__") qB)(hd:autoParam ((x==("__debug__":aj))=false) qB)(hs:autoParam (Yq (a::[.Name x p2]) X.env=(false,aF a X.env)::Yq [.Name x p2] X.env) qA)(hs2:autoParam (Yq (.Name x p2::[]) X.env=(false,aF (.Name x p2) X.env)::Yq [] X.env) qA)(hpl:autoParam ((bK pos (Yq [.Name x p2] X.env)).any (·.1)=false) qA):C3 X (.Call (.Name "isinstance" p) [a,.Name x p2] [] pos) (e1 (m9 T) f):=by
 subst hx;have hc:cN X (.builtin "isinstance") (λxs H Q=>∃ι M d x,xs=[x,.ty (eX T)]/\aq X.K H ι M/\Rep X.K H ι d x/\Zn X.K H ι Q (m9 T d M)):=by
  intro pins s σ H xs us Q I r q;obtain⟨ι,M,d,x,rfl,S,rd,q⟩:=q;obtain⟨u,w',rfl,ru,i_⟩:=vals2 r;cases i_;unfold m9 at q;cases e:ju T d M with
  |none=>rw[e]at q;exact q.elim|some b=>rw[e]at q;exact Zr3 I S rd ru e λtk=>⟨.bl b,H,I.tok _,rfl,Zn.ok q S Rep.bl⟩
 refine(JP hc hg hm ZfK (oJ h (oJ (QS hg2 hm2 (SJ T) (v:=.ty (eX T)) rfl hn hd) xY hs2) hs) (by decide) (by decide) hs hpl).imp λσ H Q ak=>?_;obtain⟨ι,M,env,S,E,h⟩:=ak;obtain⟨d,M1,e1,h⟩:=Zn.bind h;refine⟨ι,M,env,S,E,?_⟩;rw[e1];intro v H1 ι1 x1 S1 r1;exact⟨ι1,M1,d,v,rfl,S1,r1,h.up x1⟩
theorem ZfO{p:D->Bool}:∀{l:List D} {e:Nat->Bool},(∀(j:Nat) d,l[j]?=Ya d->e j=p d)->(iV l.length).all e=l.all p
 |[],_,_=>rfl|d::l,e,h=>by rw[Yk,Xp,iU,List.all_map,h 0 d rfl,iU];congr 1;exact ZfO λj d' hj=>h (j+1) d' (by simpa using hj)
theorem Bv(hc:X.calm=true):cN X (.builtin "all") (rB X.K rK):=by
 intro pins s σ H xs us Q I rs h;obtain⟨ι,M,ds,S,rd,h⟩:=h;cases ds with
 |nil=>exact h.elim|cons d ds=>
  cases ds with
  |cons _ _=>cases d<;>exact h.elim|nil=>
   obtain⟨x,rfl,r⟩:=Bt rd;obtain⟨u,rfl,ru⟩:=vals1 rs;cases d with
   | ref n=>
    cases hn:M[n]? with
    |none=>rw[Aw,hn]at h;exact h.elim|some o=>
     cases o with
     |dct _=>rw[Aw,hn]at h;exact h.elim|cV _=>rw[Aw,hn]at h;exact h.elim|ins _ _=>rw[Aw,hn]at h;exact h.elim|lst z=>
      simp only[Aw,hn]at h;cases q:allB z with
      |none=>rw[q]at h;exact h.elim|some b=>
       rw[q]at h;obtain⟨a,ha,rfl⟩:=r.e_;cases ru;obtain⟨vs,ev,rv⟩:=S.obj n _ a hn ha;obtain⟨its,rr,pl,_⟩:=I.list (bD.of ev);have hz:z.all Av=true/\z.all yd=b:=by
        unfold allB at q;split at q
        .rename_i hz;exact⟨hz,Y9 q⟩
        .cases q
       have hlen:its.toArray.size=z.length:=by rw[Yt,←rr.length,rv.length]
       have hhd:X.A.in1.handled=Yj:=I.ok.hd hc;refine call_all_walk (wY pl.isList ⟨s.heap.objs.size,_,_,_,_,_,(λj=>match z[j]? with|some d=>yd d|none=>true),rfl,Jt hhd s.heap.objs.size a (dM (I.hok.lt ev)) its.toArray,⟨⟨_,Y1 _ rfl,rfl,rfl⟩,pl.isList.at λo e=>Yi _ e⟩,?_,?_⟩)
       .intro j v s' Q' E' hv hq;have hv':its[j]?=Ya v:=by simpa using hv
        have hj:j<z.length:=by have:=(Yh.mp hv').1;rw[←Yt,hlen]at this;exact this
        have e1:z[j]?=Ya z[j]:=by simp[hj]
        have hb:=gO.mp hz.1 _ (xx hj);obtain⟨w,g1,g2⟩:=rv.get e1;obtain⟨u',k1,k2⟩:=rr.get g1;rw[hv']at k1;cases k1;have hq':Q' (yd z[j]) s':=by have:=hq;simp only[e1]at this;exact this
        generalize z[j]=dj at hb g2 hq';cases dj with
        |bl c=>have:=g2.gC;subst this;cases k2;exact tQ hq'|_=>simp[Av]at hb
       .intro h' tk kk;rw[hlen,ZfO (p:=yd) (λj d hd=>by rw[hd]),hz.2];exact⟨.bl b,H,I.kept (λc o e=>kk c o (by simp;exact dM (Y0 e)) (Yi _ e)),rfl,Zn.ok h S Rep.bl⟩
   |_=>exact h.elim
end
noncomputable def Ztu(outer:List (aj×NameKind))(N:List aj)(scope:Scope)(N':List aj)(own:Nat):Bool:=
 (scope.names.all λy=>decide (y.2≠ .cell)&&(decide (y.2≠ .free)|| decide (outer.lookup y.1=Ya .cell)|| decide (outer.lookup y.1=Ya .free))&&(decide (y.2≠ .local)|| decide (scope.names.lookup y.1=Ya .local)))&&
  decide (N'.length=N.length+own)&&R_ N N' scope
theorem o5{scope:Scope}{N':List aj}{own:Nat}(hk:scope.kind= .function)(h:Ztu X.env.scope.names X.N scope N' own=true):yC X scope N' own:=by
 simp only[Ztu,Y5,decide_eq_true_eq,gO,Py]at h;obtain⟨⟨h1,h2⟩,h3⟩:=h;refine⟨hk,λy hy=>(h1 y hy).1.1,λy hy e=>?_,λy hy e=>?_,h2,h3⟩
 .rcases(h1 y hy).1.2 with(q|q)|q
  .exact absurd e q
  .exact .inl q
  .exact .inr q
 .rcases(h1 y hy).2 with q|q
  .exact absurd e q
  .exact q
theorem gZ{h:au}{mg:aj->Option Yd}(KX:K.In h)(G:h.Ns Yu mg){x:aj}{f:Ys}{oc:Yd}{od an:Option Ys}{osl:Array (Option Yd)}{dV kV doc pm cdv ct:Yd}(a:PySem.W.nsIn K Yu x=Ya (Ya (.ref f)))(l:K.lookup f=Ya ⟨oc,od,.func (nZ x x (cO st) (bU st) (Zh st) dV kV doc pm an cdv ct),osl⟩)(c:zq K cdv x=true)(k:pB K (.ref f)=true)(b:Binds K (nZ x x (cO st) (bU st) (Zh st) dV kV doc pm an cdv ct) ps []):bM K mg x st ps:=⟨f,_,Zrb l c k,WT KX G a,b⟩
theorem ZwO{l:PySem.W.OpenLaw}{k:Nat}{q:aZ}{loose:List aj}{XP:(aj->Option Yd)->au->Prop}{YP:aU->au->Prop}{d:DefRec}{K:Params->Yb}{F:F3}(hn:l.most=Ya 63)(hdf:d.params.defaults=[])(hr:cD k vg)(hY:∀(w:aU) (h:au),YP w h->(K w.params).In h)(G:∀(w:aU) (mg:aj->Option Yd) (fa:Ys) (h:au),(K w.params).In h->h.Ns Yu mg->mg d.name=Ya (.ref fa) ->
   ∃fd:jl,(∀(s:Yf) (u:Yd),zF s fd ⟨[u],[]⟩ [("script",u)])/\∀base:au,(K w.params).In base->base.Ns Yu mg->fM l.prog w (K w.params) mg base jK k fa fd ["script"] (rR (K w.params) 1 F))(hF:∀ns:List Int,ns.length<=63->∃M',F [.a_ (ns.map D.int)] []= .ok (.bl true) M'):
  WR q loose XP YP l.row.toRowW d [] (λf vs=>Om f vs):=
 _L2.Zoi (n:=63) (k:=k) (x:="script") (CX:=λ_=>jK) (sp:=λw=>rR (K w.params) 1 F) hn (by decide) hdf hr hY G (λw H a ns hl hO hS=>by
  obtain⟨M',e⟩:=hF ns hl;refine⟨[],[],[.a_ (ns.map D.int)],⟨rfl,List.nodup_nil,λn o a h=>by simp at h⟩,Zm.cons ?_ Zm.nil,rfl,?_⟩
  .refine⟨a,ns.map V.int,rfl,?_,Zm.ints ns⟩;rcases hS with(h|⟨o,h⟩)|h
   .rcases hO a with z|⟨ob,xs,z⟩
    .rw[h]at z;cases z
    .rw[h]at z;cases z
   .exact .inl ⟨o,h⟩
   .exact .inr h
  .rw[e]
   exactλv H' ι' _ _ r=>r.gC) λ_ _ _ _ _ z=>z
theorem SM{a b:gq}(h:dk a=dk b):a=b:=by
 cases a with
 |inl i=>cases b with
  |inl j=>simp only[dk,Sum.inl.injEq]at h;rw[h]|inr y=>simp[dk]at h
 | inr x=>cases b with
  |inl j=>simp[dk]at h|inr y=>simp only[dk,Sum.inr.injEq,Str.mk.injEq]at h;have:=congrArg z8 h;simp at this;rw[this]
variable{ws:List (Key×V)}{kvs:List (gq×D)}
section
variable {K:Yb} {H H':Hp} {ι ι':List Ys} {M:Store} {p:Ys}
theorem cZ.nil:cZ K H ι [] []:=⟨rfl,Zm.nil⟩
theorem cZ.cons{k:gq}{d:D}{v:V}{kvs:List (gq×D)}{ws:List (Key×V)}(h:Rep K H ι d v)(r:cZ K H ι kvs ws):cZ K H ι ((k,d)::kvs) ((dk k,v)::ws):=⟨by simp[r.1],Zm.cons h r.2⟩
theorem cZ.cons_inv{q:gq×D}(r:cZ K H ι (q::kvs) ws):∃v ws',ws=(dk q.1,v)::ws'/\Rep K H ι q.2 v/\cZ K H ι kvs ws':=by
 obtain⟨h1,h2⟩:=r;cases ws with
 |nil=>simp at h1|cons w ws=>simp only[Yv,YH]at h1;obtain⟨v,us,e,r1,r2⟩:=Zm.cons_inv h2;simp only[Yv,YH]at e;exact⟨w.2,ws,by rw[←h1.1],e.1▸r1,h1.2,e.2▸r2⟩
theorem cZ.nil_inv(r:cZ K H ι [] ws):ws=[]:=by simpa using r.1
theorem cZ.mono(r:cZ K H ι kvs ws)(e:Ext K H ι H' ι'):cZ K H' ι' kvs ws:=⟨r.1,r.2.mono e⟩
theorem cZ.length(r:cZ K H ι kvs ws):ws.length=kvs.length:=by have:=congrArg tU r.1;simpa using this
theorem cZ.val(k:gq):∀{ws:List (Key×V)},cZ K H ι kvs ws->match E_ kvs k with|some d=>∃v,kh ws (dk k)=Ya v/\Rep K H ι d v|none=>kh ws (dk k)=Yj:=by
 induction kvs with
 |nil=>intro ws r;rw[r.nil_inv];exact Zqr|cons q kvs ih=>
  intro ws r;obtain⟨v,ws',rfl,r1,r2⟩:=r.cons_inv;obtain⟨k',d⟩:=q;unfold E_;by_cases e:k'=k
  .rw[if_pos e];exact⟨v,JT (by rw[e]),r1⟩
  .rw[if_neg e,JV λz=>e (SM z)];exact ih r2
theorem cZ.append{k1 k2:List (gq×D)}{w1 w2:List (Key×V)}(a:cZ K H ι k1 w1)(b:cZ K H ι k2 w2):cZ K H ι (k1++k2) (w1++w2):=⟨by simp[a.1,b.1],by rw[pI,pI];exact a.2.append b.2⟩
theorem cZ.any(k:gq):∀{ws:List (Key×V)},cZ K H ι kvs ws->(ws.any λkv=>decide (kv.1=dk k))=(kvs.any λq=>decide (q.1=k)):=by
 induction kvs with
 |nil=>intro ws r;rw[r.nil_inv];rfl|cons q kvs ih=>
  intro ws r;obtain⟨v,ws',rfl,r1,r2⟩:=r.cons_inv;rw[jY,jY,ih r2];congr 1;by_cases e:q.1=k
  .simp[e]
  .simp[e];exactλz=>e (SM z)
theorem cZ.put{k:gq}(r:cZ K H ι kvs ws)(rd:Rep K H ι d v):cZ K H ι (putD k d kvs) (putK ws (dk k) v):=by
 unfold putD putK;rw[r.any k];by_cases c:(kvs.any λq=>decide (q.1=k))=true
 .rw[if_pos c,if_pos c];clear c
  induction kvs generalizing ws with
  |nil=>rw[r.nil_inv];exact cZ.nil|cons q kvs ih=>
   obtain⟨u,ws',rfl,r1,r2⟩:=r.cons_inv;rw[Yv,Yv];by_cases e:q.1=k
   .rw[if_pos e,if_pos (by rw[e])];exact cZ.cons rd (ih r2)
   .rw[if_neg e,if_neg λz=>e (SM z)];exact cZ.cons r1 (ih r2)
 .rw[if_neg c,if_neg c];exact r.append (cZ.cons rd cZ.nil)
theorem aq.dct(S:aq K H ι M)(hp:H p=Yj)(r:cZ K H ι kvs ws):Ext K H ι (upd H p (.dK ws)) (ι++[p])/\aq K (upd H p (.dK ws)) (ι++[p]) (M++[.dct kvs])/\Rep K (upd H p (.dK ws)) (ι++[p]) (.ref M.length) (.ref p):=by have e:Ext K H ι (upd H p (.dK ws)) (ι++[p]):=Loose.Dd (.inl hp);exact⟨e,S.new hp ⟨ws,fY,r.mono e⟩,Rep.ref (by rw[←S.len];simp)⟩
end
section
variable {X:Cx} {a b c e o:Expr} {es:List Expr} {pos p pos' apos cpos:aP} {f g h:E3} {gl:cW}
def SN(K:Yb)(H:Hp)(ι:List Ys)(Q:List (V×V)->Hp->Prop)(r:R3 (List (gq×D))):Prop:=match r with
 | .ok l M'=>∀ws H' ι',Ext K H ι H' ι'->aq K H' ι' M'->cZ K H' ι' l ws->Q (ws.map λkv=>(kV kv.1,kv.2)) H'|_=>False
theorem SN.bind{Q:List (V×V)->Hp->Prop}{r:R3 α}{k:α->Store->R3 (List (gq×D))}(h:SN K H ι Q (r.bind k)):∃a M,r= .ok a M/\SN K H ι Q (k a M):=by
 cases r with
 |ok a M=>exact⟨a,M,rfl,h⟩|exc x M=>exact h.elim|bad=>exact h.elim
theorem hu1(hu:X.A.units+80<iR):X.A.units+1<iR:=lB 1 7331617893452817 T1 hu
theorem Zp1{D':Ends}(E:bC K H ι env σ)(h':nj K H ι D' (bV f env M)):Zn K H ι (λ_ H'=>D'.nx σ H') (f env M):=by
 unfold bV at h';cases q:f env M with
 |ok d M1=>rw[q]at h';exactλv H1 ι1 x1 S1 r1=>h' σ H1 ι1 x1 S1 (E.mono x1)|exc x M1=>rw[q]at h';exact h'.elim|bad=>rw[q]at h';exact h'.elim
end
section
variable {X:Cx} {a b c e o:Expr} {es:List Expr} {pos p apos cpos:aP} {f g h:E3} {gl:cW}
theorem ZwP:cN X (.type "int") (rB X.K Fo):=cN.imp ZoV λxs H Q ak=>by
 obtain⟨ι,M,ds,S,rd,h⟩:=ak;cases ds with
 |nil=>exact h.elim|cons d ds=>
  cases ds with
  |cons _ _=>cases d<;>exact h.elim|nil=>
   obtain⟨x,rfl,r⟩:=Bt rd;cases d with
   |int i=>exact .inl ⟨i,by rw[r.int_inv],Zn.ok h S Rep.int⟩|bl k=>exact .inr ⟨k,by rw[r.gC],Zn.ok h S Rep.int⟩|_=>exact h.elim
theorem ZjQ{K:Yb}{H:Hp}{ι:List Ys}:∀{x:List D} {ns:List Int} {vs:List V} {us:List Yd},kI x=Ya ns->Zm K H ι x vs->Vals vs us->IntsAre us ns
 |[],ns,vs,us,h,r,v=>by
  have e:=r.nil_inv;subst e;cases v;have:ns=[]:=by simpa[kI]using h.symm
  subst this;exact .nil
 | .int i::x,ns,vs,us,h,r,v=>by
  obtain⟨u,vs',rfl,r1,r2⟩:=r.cons_inv;have e:=r1.int_inv;subst e;cases v with
  | @cons _ z _ us' rz SQ=>
  obtain⟨t,rfl⟩:=rz;simp only[kI]at h;cases hx:kI x with
  |none=>rw[hx]at h;cases h|some ms=>
   rw[hx]at h;have:ns=i::ms:=by simpa using h.symm
   subst this;exact .cons i t (ZjQ hx r2 SQ)
 | .non::_,_,_,_,h,_,_=>by simp[kI]at h|.bl _::_,_,_,_,h,_,_=>by simp[kI]at h|.str _::_,_,_,_,h,_,_=>by simp[kI]at h|.tup _::_,_,_,_,h,_,_=>by simp[kI]at h
 | .a_ _::_,_,_,_,h,_,_=>by simp[kI]at h|.ref _::_,_,_,_,h,_,_=>by simp[kI]at h
end
theorem ZnK{sts:List Ydr}:mj X sts RG:=λ_ _ _ _ _ _ ⟨_,_,_,_,_,h⟩=>h.elim
section
variable {X:Cx} {o e:Expr} {es:List Expr} {apos cpos:aP} {f:E3} {gl:cW}
theorem Zm.erase:∀{ds:List D} {vs:List V} (i:Nat),Zm K H ι ds vs->Zm K H ι (ds.eraseIdx i) (vs.eraseIdx i)
 |[],_,_,h=>by rw[h.nil_inv];exact Zm.nil|d::ds,_,0,h=>by obtain⟨v,us,rfl,r,t⟩:=h.cons_inv;exact t|d::ds,_,i+1,h=>by obtain⟨v,us,rfl,r,t⟩:=h.cons_inv;exact Zm.cons r (t.erase i)
theorem Zm.dropLast(r:Zm K H ι ds vs):Zm K H ι ds.dropLast vs.dropLast:=by rw[Ox,Ox,r.length];exact r.take _
theorem Zwu:m5 X "list.pop" (rM X.K Ax):=m5.imp (r:=λx xs H Q=>ZqO x xs H Q\/Zw5 x xs H Q) (λpins s σ H x xs v us Q I rx rs q=>q.elim (Zqa pins s σ H x xs v us Q I rx rs) (ZuB pins s σ H x xs v us Q I rx rs)) λx xs H Q ak=>by
 obtain⟨ι,M,a,ds,S,ra,rd,h⟩:=ak;cases a with
 | ref n=>
  cases ds with
  | nil=>
   simp only[ZnC,RD]at h;cases hn:M[n]? with
   |none=>simp only[hn]at h;exact h.elim|some ob=>
    cases ob with
    |dct _=>simp only[hn]at h;exact h.elim|cV _=>simp only[hn]at h;exact h.elim|ins _ _=>simp only[hn]at h;exact h.elim|lst z=>
     simp only[hn]at h;cases hx:z[z.length-1]? with
     |none=>simp only[hx]at h;exact h.elim|some d=>simp only[hx]at h;obtain⟨p,hp,rfl⟩:=ra.e_;have:=rd.nil_inv;subst this;obtain⟨vs,e,rv⟩:=S.obj n _ p hn hp;obtain⟨y,hy,ry⟩:=rv.get hx;obtain⟨x2,S2⟩:=S.Df (.inr (.inl ⟨_,e⟩)) hp rv.dropLast;exact .inr ⟨p,vs,y,rfl,rfl,e,by rw[rv.length];exact hy,h _ _ _ x2 S2 (ry.mono x2)⟩
  | cons d ds=>
   cases ds with
   |cons _ _=>cases d<;>exact h.elim|nil=>
    cases d with
    | int i=>
     simp only[ZnC,RD]at h;cases hn:M[n]? with
     |none=>simp only[hn]at h;exact h.elim|some ob=>
      cases ob with
      |dct _=>simp only[hn]at h;exact h.elim|cV _=>simp only[hn]at h;exact h.elim|ins _ _=>simp only[hn]at h;exact h.elim|lst z=>
       simp only[hn]at h;by_cases hb:-1000000<=i/\i<=1000000
       .rw[if_pos hb]at h;cases hk:m8 z.length i with
        |none=>simp only[hk]at h;exact h.elim|some k=>
         simp only[hk]at h;cases hx:z[k]? with
         |none=>simp only[hx]at h;exact h.elim|some d=>simp only[hx]at h;obtain⟨p,hp,rfl⟩:=ra.e_;obtain⟨v,ws,rfl,r1,r2⟩:=rd.cons_inv;have:=r2.nil_inv;subst this;have:=r1.int_inv;subst this;obtain⟨vs,e,rv⟩:=S.obj n _ p hn hp;obtain⟨y,hy,ry⟩:=rv.get hx;obtain⟨x2,S2⟩:=S.Df (.inr (.inl ⟨_,e⟩)) hp (rv.erase k);obtain⟨q1,q2,q3,q4⟩:=Zns (n:=z.length) (i:=i) (j:=k) hk;exact .inl ⟨p,vs,i,k,y,rfl,rfl,e,by omega,by omega,by rw[rv.length];exact q1,hy,h _ _ _ x2 S2 (ry.mono x2)⟩
       .rw[if_neg hb]at h;exact h.elim
    |_=>exact h.elim
 |_=>cases ds<;>exact h.elim
end
section
variable {X:Cx} {a b c e o:Expr} {es:List Expr} {pos p apos cpos:aP} {f g h:E3} {gl:cW}
theorem Zoy:cN X (.type "str") (λxs H Q=>(∃i,xs=[.int i]/\i.natAbs.log2<1920/\Q (.str (vK i)) H)\/∃x,xs=[.str x]/\Q (.str x) H):=by
 intro pins s σ H xs us Q I r h;rcases h with h|⟨x,rfl,q⟩
 .exact ZkN pins s σ H xs us Q I r h
 .obtain⟨u,rfl,t,rfl⟩:=vals1 r;exact PySem.P.str_of_str ⟨.str x,H,I,⟨t,rfl⟩,q⟩
theorem ZtJ:cN X (.type "str") (rB X.K Ba):=cN.imp Zoy λxs H Q ak=>by
 obtain⟨ι,M,ds,S,rd,h⟩:=ak;cases ds with
 |nil=>exact h.elim|cons d ds=>
  cases ds with
  |cons _ _=>cases d<;>exact h.elim|nil=>
   obtain⟨x,rfl,r⟩:=Bt rd;cases d with
   | int i=>
    simp only[Znu,Zte]at h;split at h
    .rename_i hz;refine .inl ⟨i,by rw[r.int_inv],hz,Zn.ok h S ?_⟩;have:=Rep.str (K:=X.K) (H:=H) (ι:=ι) (x:=cY i);exact this
    .exact h.elim
   |str z=>exact .inr ⟨_,by rw[r.str_inv],Zn.ok h S Rep.str⟩|_=>exact h.elim
theorem SX{K:Yb}{H:Hp}{ι:List Ys}:∀{x:List D} {ts:List (List Nat)} {vs:List V} {us:List Yd},jd x=Ya ts->Zm K H ι x vs->Vals vs us->∃l:List (aj×eG),us=jT l/\l.map (·.1)=ts.map λt=>(⟨t.toArray⟩:aj)
 |[],ns,vs,us,h,r,v=>by
  have e:=r.nil_inv;subst e;cases v;have:ns=[]:=by simpa[jd]using h.symm
  subst this;exact⟨[],rfl,rfl⟩
 | .str i::x,ns,vs,us,h,r,v=>by
  obtain⟨u,vs',rfl,r1,r2⟩:=r.cons_inv;have e:=r1.str_inv;subst e;cases v with
  | @cons _ z _ us' rz SQ=>
  obtain⟨t,rfl⟩:=rz;simp only[jd]at h;cases hx:jd x with
  |none=>rw[hx]at h;cases h|some ms=>
   rw[hx]at h;have:ns=i::ms:=by simpa using h.symm
   subst this;obtain⟨l,rfl,e⟩:=SX hx r2 SQ;exact⟨(_,t)::l,rfl,by simp[e]⟩
 | .non::_,_,_,_,h,_,_=>by simp[jd]at h|.bl _::_,_,_,_,h,_,_=>by simp[jd]at h|.int _::_,_,_,_,h,_,_=>by simp[jd]at h|.tup _::_,_,_,_,h,_,_=>by simp[jd]at h
 | .a_ _::_,_,_,_,h,_,_=>by simp[jd]at h|.ref _::_,_,_,_,h,_,_=>by simp[jd]at h
theorem S6(sep:List Nat):∀ts:List (List Nat),Str.join (⟨sep.toArray⟩:aj) (ts.map λt=>(⟨t.toArray⟩:aj))=⟨(glue sep ts).toArray⟩
 |[]=>rfl|[x]=>rfl|x::y::xs=>by have ih:=S6 sep (y::xs);simp only[Yv]at ih ⊢;simp only[Str.join,glue]at ih ⊢;rw[ih];show(⟨(x.toArray++sep.toArray)++(glue sep (y::xs)).toArray⟩:aj)=_;simp
theorem ZvG{sep:List Nat}{ts:List (List Nat)}(h:ni sep ts<=SZ):JoinOk (⟨sep.toArray⟩:aj) (ts.map λt=>(⟨t.toArray⟩:aj))=true:=by
 have gen:∀(ts:List (List Nat)) (k:Nat),List.foldl (λx1 (x2:aj)=>x1+x2.length+(⟨sep.toArray⟩:aj).length) k (ts.map λt=>(⟨t.toArray⟩:aj))=k+ni sep ts:=by
  intro ts
  induction ts with
  |nil=>intro k;simp[ni]|cons t ts ih=>intro k;simp only[Yv,vC,ih];simp[ni,pJ];exact gn (lD 0 0x321cc0c3210ccc0 T1) (lD 0 0x3210ccc321cc0c0 T1)
 unfold JoinOk Builtin.Str.tooLong;rw[List.foldl_toArray,gen];have:bF>=SZ:=l_;simp only[tV,Bool.not_eq_true',decide_eq_false_iff_not];exactλz=>lC 3 0x6210102011011 T1 z this h
theorem ZuU:m5 X "str.join" (rM X.K Bb):=by
 intro pins s σ H x xs v us Q I rx rs h;obtain⟨ι,M,a,ds,S,ra,rd,h⟩:=h;cases a with
 | str sep=>
  cases ds with
  |nil=>exact h.elim|cons d ds=>
   cases ds with
   |cons _ _=>cases d<;>exact h.elim|nil=>
    cases d with
    | ref n=>
     simp only[Zle]at h;cases hn:M[n]? with
     |none=>simp only[hn]at h;exact h.elim|some ob=>
      cases ob with
      |dct _=>simp only[hn]at h;exact h.elim|cV _=>simp only[hn]at h;exact h.elim|ins _ _=>simp only[hn]at h;exact h.elim|lst z=>
       simp only[hn]at h;cases hs:jd z with
       |none=>simp only[hs]at h;exact h.elim|some ts=>
        simp only[hs]at h;split at h
        .rename_i hz;have:=ra.str_inv;subst this;obtain⟨w',ws,rfl,r1,r2⟩:=rd.cons_inv;have:=r2.nil_inv;subst this;obtain⟨p,hp,rfl⟩:=r1.e_;obtain⟨t,rfl⟩:=rx;obtain⟨u,rfl,ru⟩:=vals1 rs;cases ru;obtain⟨vs,e,rv⟩:=S.obj n _ p hn hp;obtain⟨its,rr,pl,zl⟩:=I.list (bD.of e);obtain⟨l,rfl,el⟩:=SX hs rv rr;refine SC.join pl.isList el (ZvG hz) λt' k=>⟨.str _,H,I.tok _,⟨t',rfl⟩,?_⟩;rw[Txt.join,StrLaws.glued_eq_join,S6];exact Zn.ok h S Rep.str
        .exact h.elim
    |_=>exact h.elim
 |_=>exact h.elim
theorem Zmy(ho:C3 X o f)(ha:CA X (e::es) gl)(hbase:autoParam (mO o "join" X.env (aF o X.env)=aF o X.env) qA)(hfew:((bK cpos (Yq (e::es) X.env)).all (λx=>!x.1)&&(iC cpos (iB [] X.env)).all (λx=>x.1.isSome)
   &&decide ((e::es).length+([]:List Keyword).length+(if([]:List Keyword).isEmpty then 0 else 1)<30))=true:=by rfl)(hline:autoParam ((apos.endLine==cpos.line)=true) qA)(hs:autoParam (Yq (e::es) X.env=(false,aF e X.env)::Yq es X.env) qA)(hplain:autoParam ((bK cpos (Yq es X.env)).any (·.1)=false) qA):
  C3 X (.Call (.Attribute o "join" apos) (e::es) [] cpos) (bB iw Bb f gl):=
 (JR Qi PySem.F.slot_str_join PySem.F.type_str_join ZuU ho ha hbase hfew hline hs hplain).imp (Kv Sw)
end
section
variable {X:Cx} {a b c e o:Expr} {es:List Expr} {pos p apos cpos:aP} {f g h:E3} {gl:cW}
theorem Zpa{x:aj}{t:eG}{y:aj}{u:eG}(hy:(y.length==0)=false)(hz:x.length+2<=bF)(h:∀(l:List (aj×eG)) (k:Nat),l.map (·.1)=Txt.split x y->l.length<=x.length+2->Q (.ref s.heap.objs.size) {s with heap:=s.heap.push {cls:=.type "list",data:=.seq (jT l).toArray},toks:=k}):
  Y8 (ao prog w) A (call (.builtin "str.split") [.str x t,.str y u]) Q E s:=by
 have e1:=StrLaws.occ_length_le x y 0 x.length (x.length+1);have e2:=length_partsBetween x (D_ x y 0 x.length (x.length+1)) y.length;have hn:(YZ x (D_ x y 0 x.length (x.length+1)) y.length).length<=bF:=lD 3 0x300321b2c01a2c101a1c021 T1 e2 e1 hz;cases h1:(decide (x.length<y.length)|| decide (Y_ x<Y_ y))with
 | true=>
  exact zB Qm (zA s x t) Ql (Qk (.str x t) (.str y u)) (meets_str_split_cannot_occur x y t u h1)
   (h [(x,t)] s.toks (if_pos h1).symm (by simp))
 | false=>
  cases hf:(D_ x y 0 x.length (x.length+1)).isEmpty with
  | true=>
   exact zB Qm (zA s x t) Ql (Qk (.str x t) (.str y u)) (meets_str_split_not_found x y t u h1 hy hf)
    (h [(x,t)] s.toks ((if_neg (ne_true_of_eq_false h1)).trans (if_pos hf)).symm (by simp))
  |false=>refine zB Qm (zA s x t) Ql (Qk (.str x t) (.str y u)) (meets_str_split_sep x y t u h1 hy hf (lB 1 1099815390209 T1 hz) hn) ?_;rw[strsFrom_eq];refine h (numbered s.toks _) _ ((numbered_texts s.toks _).trans ((if_neg (ne_true_of_eq_false h1)).trans (if_neg (ne_true_of_eq_false hf))).symm) ?_;have e3:=congrArg tU (numbered_texts s.toks (YZ x (D_ x y 0 x.length (x.length+1)) y.length));rw[Yw]at e3;exact lD 3 0x21b3c00a3c201a2c1211021 T1 e3 e2 e1
theorem Zjf:cN X (.type "int") (λxs H Q=>∃x n,xs=[.str x]/\intText? x=Ya n/\x.length<=640/\Q (.int n) H):=by intro pins s σ H xs us Q I r h;obtain⟨x,n,rfl,hn,hz,q⟩:=h;obtain⟨u,rfl,t,rfl⟩:=vals1 r;exact PySem.W.KIN.call_text hn hz ⟨.int n,H,I.tok _,⟨_,rfl⟩,q⟩
theorem S8:cN X (.type "int") (rB X.K oU):=cN.imp (cN.or ZwP Zjf) λxs H Q ak=>by
 obtain⟨ι,M,ds,S,rd,h⟩:=ak
 match ds,rd,h with
 | [.str x],rd,h=>
  obtain⟨v,rfl,r⟩:=Bt rd;simp only[Zlw,ZpL]at h;cases hn:HW ⟨x.toArray⟩with
  |none=>rw[hn]at h;exact h.elim|some n=>
   rw[hn]at h;dsimp only at h;split at h
   .rename_i hz;exact .inr ⟨_,n,by rw[r.str_inv],hn,by simpa[pJ]using hz,Zn.ok h S Rep.int⟩
   .exact h.elim
 |[],rd,h=>exact h.elim|[.int i],rd,h=>exact .inl ⟨ι,M,_,S,rd,h⟩|[.bl i],rd,h=>exact .inl ⟨ι,M,_,S,rd,h⟩|[.non],rd,h=>exact h.elim
 |[.tup _],rd,h=>exact h.elim|[.a_ _],rd,h=>exact h.elim|[.ref _],rd,h=>exact h.elim|.str _::_::_,rd,h=>exact h.elim
 | .int _::_::_,rd,h=>exact h.elim|.bl _::_::_,rd,h=>exact h.elim|.non::_::_,rd,h=>exact h.elim|.tup _::_::_,rd,h=>exact h.elim
 | .a_ _::_::_,rd,h=>exact h.elim|.ref _::_::_,rd,h=>exact h.elim
theorem S_{K:Yb}{H:Hp}{ι:List Ys}:∀(l:List (aj×eG)),Vals (l.map λp=>V.str p.1) (jT l)/\Zm K H ι ((l.map λp=>p.1.cps.toList).map D.str) (l.map λp=>V.str p.1)
 |[]=>⟨.nil,Zm.nil⟩|p::l=>⟨.cons ⟨p.2,rfl⟩ (S_ (K:=K) (H:=H) (ι:=ι) l).1,Zm.cons (Rep.str (x:=p.1.cps.toList)) (S_ l).2⟩
theorem m_split:m5 X "str.split" (rM X.K rO):=by
 intro pins s σ H x xs v us Q I rx rs h;obtain⟨ι,M,a,ds,S,ra,rd,h⟩:=h;cases a with
 | str z=>
  cases ds with
  |nil=>exact h.elim|cons d ds=>
   cases ds with
   |cons _ _=>cases d<;>exact h.elim|nil=>
    cases d with
    | str y=>
     simp only[ZjB]at h;split at h
     .rename_i hz;have:=ra.str_inv;subst this;obtain⟨w',ws,rfl,r1,r2⟩:=rd.cons_inv;have:=r2.nil_inv;subst this;have:=r1.str_inv;subst this;obtain⟨t,rfl⟩:=rx;obtain⟨u,rfl,ru⟩:=vals1 rs;obtain⟨t',rfl⟩:=ru;have zl:=l_;refine Zpa ?_ ?_ λl k hl hn=>?_
      .have:=hz.1;simp[pJ];intro e;subst e;simp at this
      .simp only[pJ,Yt];exact Yp hz.2 zl
      .have hq:=I.fresh;obtain⟨v1,r'⟩:=S_ (K:=X.K) (H:=H) (ι:=ι) l;have e1:(l.map λp=>p.1.cps.toList)=lZ z y:=by
        rw[lZ,←hl,zV];rfl
       rw[e1]at r';obtain⟨x2,S2,r2⟩:=S.lst hq r';refine⟨.ref s.heap.objs.size,_,I.laid (λb o' e=>Yi _ e) (Yo _) (show cR X.prog X.w _ _ _ (.lst (l.map λp=>V.str p.1))from⟨?_,jT l,_,v1,Y1 _ rfl⟩),rfl,h _ _ _ x2 S2 r2⟩;simp only[Yw,pJ,Yt]at hn ⊢;exact lD 3 0x300221b1c01320121b1c001 T1 hn zl hz.2
     .exact h.elim
    |_=>exact h.elim
 |_=>exact h.elim
theorem Tc(ho:C3 X o f)(ha:CA X (e::es) gl)(hbase:autoParam (mO o "split" X.env (aF o X.env)=aF o X.env) qA)(hfew:((bK cpos (Yq (e::es) X.env)).all (λx=>!x.1)&&(iC cpos (iB [] X.env)).all (λx=>x.1.isSome)
   &&decide ((e::es).length+([]:List Keyword).length+(if([]:List Keyword).isEmpty then 0 else 1)<30))=true:=by rfl)(hline:autoParam ((apos.endLine==cpos.line)=true) qA)(hs:autoParam (Yq (e::es) X.env=(false,aF e X.env)::Yq es X.env) qA)(hplain:autoParam ((bK cpos (Yq es X.env)).any (·.1)=false) qA):
  C3 X (.Call (.Attribute o "split" apos) (e::es) [] cpos) (bB iw rO f gl):=
 (JR Qi PySem.F.slot_str_split PySem.F.type_str_split m_split ho ha hbase hfew hline hs hplain).imp (Kv Sw)
end
section
variable {X:Cx} {a b c e o:Expr} {es:List Expr} {pos p p1 p2 p3 pt apos cpos:aP} {f g h:E3} {gl:cW}
theorem Zst(K:Yb)(t:String)(T1 T2:m7)(ht:t∈["NoneType","bool","int","str","list","tuple","dict"]):
  PySem.W.kitAny K (.type t) [.type (eX T1),.type (eX T2)]=Ya ((t==eX T1|| (t== "bool" &&eX T1== "int"))|| (t==eX T2|| (t== "bool" &&eX T2== "int"))):=by
 simp only[Ym,ig,or_false]at ht;rcases ht with rfl|rfl|rfl|rfl|rfl|rfl|rfl <;>cases T1<;>cases T2<;>kernel_rfl
theorem Zsf{x:V}(I:Inv X pins σ H s)(S:aq X.K H ι M)(r:Rep X.K H ι d x)(ru:RelV x u)(hd:ju .int d M≠Yj):
  ∃(t:String) (Hc:au->Prop),PySem.W.KitX X.K u (.type t) Hc/\Hc s.heap/\u≠ .builtin "__main__.__loader__#opaque" /\t∈["NoneType","bool","int","str","list","tuple","dict"]/\∀T b,ju T d M=Ya b->b=(t==eX T|| (t== "bool" &&eX T== "int")):=by
 cases d with
 | non=>
  have:=r.iM;subst this;cases(show u=Value.none from ru);exact⟨"NoneType",_,WD,True.intro,(λz=>nomatch z),by simp,λT b e=>by
   have hb:b=false:=by simpa  using e.symm
   subst hb;cases T<;>rfl⟩
 | bl c=>
  have:=r.gC;subst this;cases(show u=Value.bool c from ru);exact⟨"bool",_,WK,True.intro,(λz=>nomatch z),by simp,λT b e=>by
   have hb:b=(T== .bool|| T== .int):=by simpa  using e.symm
   subst hb;cases T<;>rfl⟩
 | int i=>
  have:=r.int_inv;subst this;obtain⟨t,q⟩:=(show∃t,u=Value.int i t from ru);cases q;exact⟨"int",_,WM,True.intro,(λz=>nomatch z),by simp,λT b e=>by
   have hb:b=(T== .int):=by simpa  using e.symm
   subst hb;cases T<;>rfl⟩
 | str z=>
  have:=r.str_inv;subst this;obtain⟨t,q⟩:=(show∃t,u=Value.str _ t from ru);cases q;exact⟨"str",_,WN,True.intro,(λz=>nomatch z),by simp,λT b e=>by
   have hb:b=(T== .str):=by simpa  using e.symm
   subst hb;cases T<;>rfl⟩
 | tup ds=>
  obtain⟨a,vs,rfl,st,rr⟩:=r.jk;cases ru;obtain⟨its,_,pt,_⟩:=I.tuple st;obtain⟨o,h1,h2,_⟩:=pt;exact⟨"tuple",_,Nq,⟨o,h1,h2⟩,(λz=>nomatch z),by simp,λT b e=>by
   have hb:b=(T== .tuple):=by simpa  using e.symm
   subst hb;cases T<;>rfl⟩
 |a_ ds=>exact absurd (by simp) hd|ref n=>
  simp only[Znz,Zoe,Znf,ZnQ,Znl,Zn7,Znt]at hd;cases hn:M[n]? with
  |none=>exact absurd (by simp[hn]) hd|some o=>
   obtain⟨a,ha,rfl⟩:=r.e_;cases o with
   | lst z=>
    obtain⟨vs,ev,_⟩:=S.obj n _ a hn ha;cases(show u=Value.ref a from ru);obtain⟨_,_,n',_,h1⟩:=(show cR X.prog X.w H s.heap a (.lst vs)from I.hok a _ ev);exact⟨"list",_,Nv,⟨_,h1,rfl⟩,(λz=>nomatch z),by simp,λT b e=>by
     have hb:b=(T== .list):=by simpa[hn]using e.symm
     subst hb;cases T<;>rfl⟩
   | dct z=>
    obtain⟨vs,ev,_⟩:=S.obj n _ a hn ha;cases(show u=Value.ref a from ru);obtain⟨_,_,vs',_,q⟩:=(show cR X.prog X.w H s.heap a (.dK vs)from I.hok a _ ev);obtain⟨o,es,ep,h1,h2,_⟩:=q;exact⟨"dict",_,Nx,⟨o,h1,h2.1⟩,(λz=>nomatch z),by simp,λT b e=>by
     have hb:b=false:=by simpa[hn]using e.symm
     subst hb;cases T<;>rfl⟩
   |cV z=>exact absurd (by simp[hn]) hd|ins _ _=>exact absurd (by simp[hn]) hd
theorem ZnD(T1 T2:m7){x y:aj}{k}(hm:X.mg "isinstance" =Yj)(hm1:X.mg x=Yj)(hm2:X.mg y=Yj)(h:C3 X a f)(hx:autoParam (x=(lV (eX T1))) qA)(hy:autoParam (y=(lV (eX T2))) qA)(hg:autoParam (Gl X "isinstance") qA)(hg1:autoParam (Gl X x) qA)(hg2:autoParam (Gl X y) qA)(hn:autoParam (x≠ "__name__") qB)(hd:autoParam ((x==("__debug__":aj))=false) qB)(hn':autoParam (y≠ "__name__") qB)(hd':autoParam ((y==("__debug__":aj))=false) qB)(hs:autoParam (Yq (a::[.Tuple [.Name x p1,.Name y p2] k pt]) X.env=(false,aF a X.env)::Yq [.Tuple [.Name x p1,.Name y p2] k pt] X.env) qA)(hs1:autoParam (Yq (.Tuple [.Name x p1,.Name y p2] k pt::[]) X.env=(false,aF (.Tuple [.Name x p1,.Name y p2] k pt) X.env)::Yq [] X.env) qA)(hs2:autoParam (Yq (.Name x p1::[.Name y p2]) X.env=(false,aF (.Name x p1) X.env)::Yq [.Name y p2] X.env) qA)(hs3:autoParam (Yq (.Name y p2::[]) X.env=(false,aF (.Name y p2) X.env)::Yq [] X.env) qA)(hpl:autoParam ((bK pos (Yq [.Tuple [.Name x p1,.Name y p2] k pt] X.env)).any (·.1)=false) qA):C3 X (.Call (.Name "isinstance" p) [a,.Tuple [.Name x p1,.Name y p2] k pt] [] pos) (e1 (Fz T1 T2) f):=by
 subst hx hy;have hc:cN X (.builtin "isinstance") (λxs H Q=>∃ι M d x q,xs=[x,.ref q]/\H q=Ya (.tup [.ty (eX T1),.ty (eX T2)])/\aq X.K H ι M/\Rep X.K H ι d x/\Zn X.K H ι Q (Fz T1 T2 d M)):=by
  intro pins s σ H xs us Q I r q;obtain⟨ι,M,d,x,tp,rfl,et,S,rd,q⟩:=q;obtain⟨u,w',rfl,ru,i_⟩:=vals2 r;cases i_;unfold Fz at q;cases e1:ju T1 d M with
  |none=>rw[e1]at q;exact q.elim|some b1=>
   cases e2:ju T2 d M with
   |none=>rw[e1,e2]at q;exact q.elim|some b2=>
    rw[e1,e2]at q;have hd:ju .int d M≠Yj:=λz=>by
     cases d with
     |ref n=>
      simp only[Znz,Zoe,Znf,ZnQ,Znl,Zn7,Znt]at z e1;cases hn:M[n]? with
      |none=>simp[hn]at e1|some o=>cases o<;>simp[hn]at z e1
     |a_ _=>simp  at e1|_=>simp  at z
    obtain⟨t,Hc,kx,hh,hl,ht,hb⟩:=Zsf I S rd ru hd;obtain⟨_,its,rt,pt⟩:=(show cR X.prog X.w H s.heap tp (.tup [.ty (eX T1),.ty (eX T2)])from I.hok tp _ et);obtain⟨v1,v2,rfl,q1,q2⟩:=vals2 rt;cases q1;cases q2;obtain⟨ob,g1,⟨g2,g3⟩,n,g4⟩:=pt;have ho:ob={cls:=.type "tuple",dict:=ob.dict,data:=.seq [.type (eX T1),.type (eX T2)].toArray n,slots:=ob.slots}:=by cases ob;simp only at g2 g4;subst g2 g4;rfl
    rw[ho]at g1;refine PySem.W.kia_tup kx I.bN hh g1 ((Zst X.K t T1 T2 ht).trans ?_) hl λtk=>⟨.bl (b1|| b2),H,I.tok _,rfl,Zn.ok q S Rep.bl⟩;rw[hb T1 b1 e1,hb T2 b2 e2]
 refine(JP hc hg hm ZfK (oJ h (oJ (Q_ (oJ (QS hg1 hm1 (SJ T1) (v:=.ty (eX T1)) rfl hn hd) (oJ (QS hg2 hm2 (SJ T2) (v:=.ty (eX T2)) rfl hn' hd') xY hs3) hs2)) xY hs1) hs) (by decide) (by decide) hs hpl).imp λσ H Q ak=>?_;obtain⟨ι,M,env,S,E,h⟩:=ak;obtain⟨d,M1,e1,h⟩:=Zn.bind h;refine⟨ι,M,env,S,E,?_⟩;rw[e1];intro v H1 ι1 x1 S1 r1;refine⟨by simp;exact Yp (by decide) l_,λq hq=>?_⟩;have x2:Ext X.K H1 ι1 (upd H1 q (.tup [.ty (eX T1),.ty (eX T2)])) ι1:=Loose.ext (.inl hq);exact⟨ι1,M1,d,v,q,rfl,fY,S1.other (.inl hq) (S1.fresh hq),r1.mono x2,h.up (x1.trans x2)⟩
end
section
variable {X:Cx} {tg e:Expr} {pos:aP} {f:E3} {g:G3}
theorem Zuu(he:C3 X e f)(hg:CG X tg g)(hs:autoParam (swapsWithSole [tg] e pos.line X.env=pure false) qA)(hw:autoParam (swappedStores [tg] e X.env=pure Yj) qA)(h1:autoParam ((pD [tg] X.env).map (·.2)=[pH tg X.env]) qA):CS X (.Assign [tg] e pos) (Bc f g):=(ZuJ he hg hs hw h1).imp λD σ H ak=>by
 obtain⟨ι,M,env,S,E,h⟩:=ak;refine⟨ι,M,env,S,E,?_⟩;unfold Bc at h;cases q:f env M with
 | ok d M1=>
  rw[q]at h;cases qg:g d env with
  |none=>simp only[qg]at h;exact h.elim|some dm=>simp only[qg]at h;exactλv H1 ι1 x1 S1 r1=>⟨ι1,M1,env,d,dm,S1,E.mono x1,r1,qg,λσ' E'=>h σ' H1 ι1 x1 S1 E'⟩
 |exc x M1=>rw[q]at h;exact h.elim|bad=>rw[q]at h;exact h.elim
end
def Kw(K:Yb)(H:Hp)(ι:List Ys)(it:FJ)(J:It):Prop:=∀(i:Nat) H2 ι2 M2,Ext K H ι H2 ι2->aq K H2 ι2 M2->je it.lk M2=true ->
 (∀d,it.items[i]?=Ya d->J.go i H2/\∀x H3,J.JH i H2 x H3->Ext K H2 ι2 H3 ι2/\aq K H3 ι2 M2/\Rep K H3 ι2 d x)/\(i=it.items.length->J.stop i H2)
def Bw(K:Yb)(H:Hp)(ι:List Ys)(R:It->Hp->Prop)(r:R3 FJ):Prop:=match r with
 | .ok it M'=>∀J H' ι',Ext K H ι H' ι'->aq K H' ι' M'->Kw K H' ι' it J->R J H'|_=>False
def tIL(K:Yb)(g:yo):TI:=λσ H R=>∃ι M env,aq K H ι M/\bC K H ι env σ/\Bw K H ι R (g env M)
def CIL(X:Cx)(tg e:Expr)(g:yo):Prop:=PI X tg e (tIL X.K g)
theorem Bw.bind{Q:It->Hp->Prop}{r:R3 α}{k:α->Store->R3 FJ}(h:Bw K H ι Q (r.bind k)):∃a M,r= .ok a M/\Bw K H ι Q (k a M):=by
 cases r with
 |ok a M=>exact⟨a,M,rfl,h⟩|exc x M=>exact h.elim|bad=>exact h.elim
theorem _root_._L2.Inv.Hu{h':au}{t':Nat}(I:Inv X pins σ H s)(k:∀b o,b∉fp->s.heap.get? b=Ya o->h'.get? b=Ya o)(hf:∀b∈fp,gR X pins H b):
  Inv X pins σ H {s with heap:=h',toks:=t'}:=by
 have Eo:∀b u,H b=Ya u->b∉fp:=λb u e z=>by rw[(hf b z).1]at e;cases e
 refine I.step (g':=s.gens) (d':=s.drawn) (ch:=fp) (λb hb=>⟨(hf b hb).2.2.2.1,(hf b hb).2.1,(hf b hb).2.2.2.2.1,(hf b hb).2.2.2.2.2⟩) (λb o _ _ hc e _=>k b o hc e) (λb o _ _ hc e _=>⟨o.slots,k b o hc e⟩) (λ_ _ _ _ n=>n)
  (λb o hc e=>⟨o,k b o hc e⟩) (λ_ _ e=>e) (λ_ _ _ e=>e) (λb ps e=>⟨#[],by rw[e];simp⟩) (λm hm=>?_) (λb u e=>?_) I.bare
 .obtain⟨o,es,ep,ho,r⟩:=hm;exact⟨o,es,ep,k _ o (λz=>(hf _ z).2.1 rfl) ho,r⟩
 .refine(I.hok b u e).stay (λc v hc q=>k c v ?_ q) (λ_ q=>q) λ_ _ q=>q;rcases hc with z|z
  .rw[z];exact Eo b u e
  .exact Eo c _ z
noncomputable def Ite(S:Hp->List V->Prop):It:=⟨λi H=>∃xs x,S H xs/\xs[i]?=Ya x,λi H x H'=>∃T y,x= .ref T/\H T=Yj/\H'=upd H T (.tup [.int i,y])/\∀xs,S H xs->xs[i]?=Ya y,λi H=>∃xs,S H xs/\xs.length<=i⟩
theorem Td{h' h'':au}{e:Ys}{x:V}{tk tk':Nat}(I:Inv X pins σ H s)(hf:∀b∈[e,it],gR X pins H b)(he:e<s.heap.objs.size)(hi:it<s.heap.objs.size)(ru:RelV x u)(hT:h'.get? s.heap.objs.size=Ya {cls:=.type "tuple",data:=.seq #[.int i tk,u]})(hk:∀b o,b≠e->b≠it->s.heap.get? b=Ya o->h'.get? b=Ya o)(hs:DQ e h' h''):
  Inv X pins σ (upd H s.heap.objs.size (.tup [.int i,x])) {s with heap:=h'',toks:=tk'}/\∀b∈[e,it],upd H s.heap.objs.size (.tup [.int i,x]) b=Yj:=by
 have hn:∀b∈[e,it],upd H s.heap.objs.size (.tup [.int i,x]) b=Yj:=λb hb=>by
  have:b≠s.heap.objs.size:=by
   simp only[Ym,ig,or_false]at hb;rcases hb with rfl|rfl
   .exact dM he
   .exact dM hi
  rw[Zu this];exact(hf b hb).1
 refine⟨?_,hn⟩;have I1:Inv X pins σ (upd H s.heap.objs.size (.tup [.int i,x])) {s with heap:=s.heap.push {cls:=.type "tuple",data:=.seq ([.int i tk,u]:List Yd).toArray},toks:=s.toks}:=I.laid (t':=s.toks) (λb o e=>Yi _ e) (Yo _) (show cR X.prog X.w _ _ _ (.tup [.int i,x])from⟨by rw[q8];show 2<=_;decide,[.int i tk,u],.cons ⟨tk,rfl⟩ (.cons ru .nil),tZ.new _ _⟩);have I3:=I1.Hu (t':=tk') (h':=h'') (fp:=[e,it]) (λb o hb q=>by
  have hbe:b≠e:=λz=>hb (by simp[z]);have hbi:b≠it:=λz=>hb (by simp[z]);rcases Heap.get?_push_cases q with⟨rfl,rfl⟩|q
  .exact(hs.2 _ (xN he)).trans hT
  .exact(hs.2 _ hbe).trans (hk b o hbe hbi q)) λb hb=>⟨hn b hb,(hf b hb).2⟩
 exact I3
theorem Zms{P:aZ}{es:List Expr}{k:Nat}{pos:aP}(a e it:Ys)(hne:e≠it):
  Turn P w K (.Tuple es k pos) (Ite λH xs=>bD K H a xs) [e,it] e (λi h=>(∃old,xq h e it i old)/\h.IsListIter it a i)where
 mem:=by simp
 obj:=λi h st b hb=>by
  obtain⟨⟨old,he⟩,o,ho,c,d⟩:=st;simp only[Ym,ig,or_false]at hb;rcases hb with rfl|rfl
  .exact⟨_,he,λv z=>by cases z⟩
  .exact⟨o,ho,λv z=>by rw[d]at z;cases z⟩
 keep:=λi h h' st k=>by obtain⟨⟨old,he⟩,hit⟩:=st;exact⟨⟨old,k e (by simp) _ he⟩,hit.at λo q=>k it (by simp) o q⟩
 item:=by
  intro X hP hw hK hc i pins s σ H E I hf st hg;subst hP hw hK;obtain⟨xs,x,hq,hx⟩:=hg;obtain⟨its,rv,p,hz⟩:=I.list hq;obtain⟨u,hu,ru⟩:=rv.get hx;obtain⟨⟨old,he⟩,hit⟩:=st;have hel:=Y0 he;have hil:it<s.heap.objs.size:=by obtain⟨o,ho,_⟩:=id hit;exact Y0 ho
  refine wpAny_pyNext_enum_item he hit p.isList (x:=u) (by simpa using hu) hne λh' ho hit' hT hsz hk=>?_;refine⟨_,rfl,N5 (s:={s with heap:=h',toks:=s.toks+1}) ho λh'' Dg hs''=>?_⟩;obtain⟨I2,n2⟩:=Td (x:=x) (tk':=s.toks+1) I hf hel hil ru hT hk hs'';exact⟨.ref s.heap.objs.size,_,I2,rfl,⟨_,x,rfl,I.hok.fresh (Yo _),rfl,λys hy=>by rw[I.MK hy hq];exact hx⟩,⟨⟨_,by simpa using Dg⟩,hit'.extBut hs''.extBut (bT hne)⟩,n2⟩
 done:=by intro X hP hw hK hc i pins s σ H E I hf st hg;subst hP hw hK;obtain⟨xs,hq,hx⟩:=hg;obtain⟨its,rv,p,hz⟩:=I.list hq;obtain⟨⟨old,he⟩,hit⟩:=st;have hl:=rv.length;exact wpAny_pyNext_enum_end (I.ok.hd hc) he hit p.isList (by simp;exact lC 2 2268279672881 T1 hl hx) λh' eb=>⟨rfl,I.Hu (t':=s.toks) (λb o hb q=>eb b o (λz=>hb (by simp[z])) q) hf⟩
 self:=λ_ _ _ _ _ st h=>by obtain⟨⟨old,he⟩,_⟩:=st;exact zu he h
theorem boot_enumerate:jr "enumerate" =Ya (.type "enumerate"):=by decide +kernel
open AutoSeq1 (wpAny_loadPart')
set_option maxRecDepth 100000
section
variable {prog:aZ} {w:aU} {A:bj} {E:Yd->Yf->Prop} {s:Yf}
theorem Zgm{it t:Ys}{x:Yd}(hit:s.heap.IsTupleIter it t i)(ht:s.heap.IsTuple t items)(hx:items[i]?=Ya x)(hQ:∀h',h'.IsTupleIter it t (i+1)->DQ it s.heap h'->Q x {s with heap:=h'}):Y8 (ao prog w) A (Jp (.ref it)) Q E s:=by
 obtain⟨o,ho,hc,hd⟩:=id hit;obtain⟨ol,hol,_,nl,hdl⟩:=ht;unfold Jp;refine Yc (wV (name:=lV "__next__") hit.typeIs Jd
  (u_ Jd hit.typeIs YQ ?_ (YT _)))
 show Y8 _ _ (field (.ref it) 0>>=_) _ _ s;refine Yc (lO ho hd (x:=.ref t) rfl ?_);show Y8 _ _ (if(Value.ref t==Value.none)=true then _ else _) _ _ s;rw[if_neg (show¬((Value.ref t==Value.none)=true)from oA)];show Y8 _ _ (field (.ref it) 1>>=_) _ _ s;refine Yc (lO ho hd (x:=.int i 0) rfl ?_);show Y8 _ _ (seqItems? (.ref t)>>=_) _ _ s;refine Yc (Dn hol hdl ?_);simp only[z6,hx];refine Yc (Dp ho hd (by simp) (Yn ⟨x,rfl,Yn (hQ _ ?_ (Yj6 ..))⟩));exact⟨_,xJ _ ho (Qq (Eg hd _)),(Z8 ..).trans hc,by rw[Eg hd];simp[jV]⟩
theorem Zep{it t:Ys}(hh:A.handled=Yj)(hit:s.heap.IsTupleIter it t i)(ht:s.heap.IsTuple t items)(hx:items[i]?=Yj)(hE:∀h' e,Heap.ExtBut it s.heap h'->(∃o,h'.get? e=Ya o/\o.cls= .type "StopIteration")->E (.ref e) {s with heap:=h'}):Y8 (ao prog w) A (Jp (.ref it)) Q E s:=by
 obtain⟨o,ho,hc,hd⟩:=id hit;obtain⟨ol,hol,_,nl,hdl⟩:=ht;unfold Jp;refine Yc (wV (name:=lV "__next__") hit.typeIs Jd
  (u_ Jd hit.typeIs YQ ?_ (YT _)))
 show Y8 _ _ (field (.ref it) 0>>=_) _ _ s;refine Yc (lO ho hd (x:=.ref t) rfl ?_);show Y8 _ _ (if(Value.ref t==Value.none)=true then _ else _) _ _ s;rw[if_neg (show¬((Value.ref t==Value.none)=true)from oA)];show Y8 _ _ (field (.ref it) 1>>=_) _ _ s;refine Yc (lO ho hd (x:=.int i 0) rfl ?_);show Y8 _ _ (seqItems? (.ref t)>>=_) _ _ s;refine Yc (Dn hol hdl ?_);simp only[z6,hx];refine Yc (Ib (Yc (Dp ho hd (by simp) ?_)));show Y8 _ _ (newExc (.type "StopIteration") []>>=_) _ _ _;refine Yc ?_;simp only[newExc,newTuple];refine Yc (qZ ?_ (by size_fits));refine Yc (m:=firstArgMember _ _) (H_ (a:=Value.none) (by first|rfl|(simp only[firstArgMember];rfl)) ?_);refine qZ ?_ (by size_fits);simp only[raiseNew];refine Yc (wpAny_handled ?_)
 first|rw[show A.in1.handled=Yj from hh]|rw[hh]
 refine Yc (Yn (wpAny_throw ?_));exact hE _ _ (((Yj6 ..).extBut.push _).push _) ⟨_,Y1 _ rfl,rfl⟩
end
theorem Zk6(hh:A.handled=Yj)(it l:Ys)(hne:l≠it)(items:Array Yd):
  Draws prog w A it [it,l] items.size (λi v=>items[i]?=Ya v) (λi h=>h.IsTupleIter it l i/\h.IsTuple l items)where
 live:=λ_ _ st=>let⟨o,ho,_⟩:=st.1;⟨o,ho⟩
 frame:=λ_ _ _ st hk=>⟨st.1.at λo e=>hk it (by simp) o e,st.2.at λo e=>hk l (by simp) o e⟩
 item:=λi s Q E hi st hQ=>by refine Zgm st.1 st.2 (x:=items[i]) (by simp[hi]) λh' hit' hs'=>?_;exact hQ _ h' s.toks (by simp[hi]) ⟨hit',st.2.extBut hs'.extBut hne⟩ hs'
 done:=λs Q E st hE=>Zep hh st.1 st.2 (by simp) hE
theorem Ze8(l:Ys)(items:Array Yd)(n:Nat)(dct:Option Ys)(sl:Array (Option Yd)):
  Meets (Builtin.«enumerate.__new__» ⟨[.type "enumerate",.ref l],[]⟩) (λ_ R s=>s.heap.get? l=Ya {cls:=.type "tuple",dict:=dct,data:=.seq items n,slots:=sl}/\
   R (.ok (.ret (.ref (s.heap.push {cls:=.type "tuple_iterator",data:=.fields #[.ref l,.int 0 0]}).objs.size)))
    {s with heap:=(s.heap.push {cls:=.type "tuple_iterator",data:=.fields #[.ref l,.int 0 0]}).push {cls:=.type "enumerate",data:=.fields #[.none,.bool false,.ref s.heap.objs.size,jV 0,.none,.none]}}):=
 .of_wp λprog w A R s h=>by
  obtain⟨hp,g,d,tk,os⟩:=s;obtain⟨hl,h⟩:=h;have hsub:=sub_enumerate;have hL:Heap.IsTuple (Shared.heap ⟨hp,g,d,tk,os⟩) l items:=⟨_,hl,rfl,n,rfl⟩
  wp_walk using u9 hl
  refine Xg λst=>Yn ?_;split
  .rename_i c _ _ _ _ _;cases(c==Value.type "enumerate")
   .wp_walk using u9 hl,HS hL
    exact⟨_,rfl,h⟩
   .wp_walk using u9 hl,HS hL
    exact⟨_,rfl,h⟩
  .wp_walk using u9 hl,HS hL
   exact⟨_,rfl,h⟩
theorem Ze4{l:Ys}(hL:s.heap.IsTuple l items)(h:∀h',xq h' (s.heap.objs.size+1) s.heap.objs.size 0 .none->h'.IsTupleIter s.heap.objs.size l 0->h'.objs.size=s.heap.objs.size+2 ->
   (∀b o,s.heap.get? b=Ya o->h'.get? b=Ya o)->Q (.ref (s.heap.objs.size+1)) {s with heap:=h'}):
  Y8 (ao prog w) A (call (.type "enumerate") [.ref l]) Q E s:=by
 obtain⟨⟨c,dct,dt,sl⟩,hl,hc,n,hd⟩:=hL;replace hc:c= .type "tuple":=hc;replace hd:dt= .seq items n:=hd;subst hc hd;refine callType_new Z2 (by decide) (F.typeCall_enumerate_1 _) (F.newCall_enumerate_1 _) (λobj=>F.args_object_init_2 obj _) Z1
  (Ze8 l items n dct sl) ⟨hl,?_⟩
 have hz:(s.heap.push {cls:=.type "tuple_iterator",data:=.fields #[.ref l,.int 0 0]}).objs.size=s.heap.objs.size+1:=vG ..;show _/\_;rw[hz];have he:xq ((s.heap.push {cls:=.type "tuple_iterator",data:=.fields #[.ref l,.int 0 0]}).push
   {cls:=.type "enumerate",data:=.fields #[.none,.bool false,.ref s.heap.objs.size,jV 0,.none,.none]}) (s.heap.objs.size+1) s.heap.objs.size 0 .none:=by
  have:=Y1 (s.heap.push {cls:=.type "tuple_iterator",data:=.fields #[.ref l,.int 0 0]})
   (o:={cls:=.type "enumerate",data:=.fields #[.none,.bool false,.ref s.heap.objs.size,jV 0,.none,.none]}) rfl
  rw[hz]at this;exact this
 refine⟨⟨_,he,rfl⟩,h _ he ⟨_,Yi _ (Y1 _ rfl),rfl,rfl⟩ (by rw[vG,hz]) λb o x=>Yi _ (Yi _ x)⟩
theorem Zmt{P:aZ}{es:List Expr}{k:Nat}{pos:aP}(a e it:Ys)(hne:e≠it):
  Turn P w K (.Tuple es k pos) (Ite λH xs=>cM K H a xs) [e,it] e (λi h=>(∃old,xq h e it i old)/\h.IsTupleIter it a i)where
 mem:=by simp
 obj:=λi h st b hb=>by
  obtain⟨⟨old,he⟩,o,ho,c,d⟩:=st;simp only[Ym,ig,or_false]at hb;rcases hb with rfl|rfl
  .exact⟨_,he,λv z=>by cases z⟩
  .exact⟨o,ho,λv z=>by rw[d]at z;cases z⟩
 keep:=λi h h' st k=>by obtain⟨⟨old,he⟩,hit⟩:=st;exact⟨⟨old,k e (by simp) _ he⟩,hit.at λo q=>k it (by simp) o q⟩
 item:=by
  intro X hP hw hK hc i pins s σ H E I hf st hg;subst hP hw hK;obtain⟨xs,x,hq,hx⟩:=hg;obtain⟨its,rv,p,hz⟩:=I.tuple hq;obtain⟨u,hu,ru⟩:=rv.get hx;obtain⟨⟨old,he⟩,hit⟩:=st;have hel:=Y0 he;have hil:it<s.heap.objs.size:=by obtain⟨o,ho,_⟩:=id hit;exact Y0 ho
  have pt:s.heap.IsTuple a its.toArray:=p;have Te:e≠a:=by rintro rfl;obtain⟨o,ho,hc,_⟩:=pt;rw[he]at ho;cases ho;exact absurd hc (by simp)
  have hai:a≠it:=by rintro rfl;obtain⟨o,ho,hc,_⟩:=pt;obtain⟨o',ho',hc',_⟩:=hit;rw[ho']at ho;cases ho;rw[hc']at hc;exact absurd hc (by simp)
  have D:=Zk6 (prog:=X.prog) (w:=X.w) (A:=X.A.in1) (I.ok.hd hc) it a hai its.toArray;refine WX D he ⟨hit,pt⟩ (by simpa using(Yh.mp hu).1) hne (by simp[hne,Te]) λy h' tk hy ho hst hT hsz hk=>?_;have ey:y=u:=by
   have:its.toArray[i]?=Ya u:=by simpa using hu
   rw[this]at hy;cases hy;rfl
  subst ey;refine⟨_,rfl,N5 (s:={s with heap:=h',toks:=tk+1}) ho λh'' Dg hs''=>?_⟩;obtain⟨I2,n2⟩:=Td (x:=x) (tk':=tk+1) I hf hel hil ru hT hk hs'';exact⟨.ref s.heap.objs.size,_,I2,rfl,⟨_,x,rfl,I.hok.fresh (Yo _),rfl,λys hy=>by rw[I.Mx hy hq];exact hx⟩,⟨⟨_,by simpa using Dg⟩,hst.1.extBut hs''.extBut (bT hne)⟩,n2⟩
 done:=by
  intro X hP hw hK hc i pins s σ H E I hf st hg;subst hP hw hK;obtain⟨xs,hq,hx⟩:=hg;obtain⟨its,rv,p,hz⟩:=I.tuple hq;obtain⟨⟨old,he⟩,hit⟩:=st;have hl:=rv.length;have pt:s.heap.IsTuple a its.toArray:=p;have hT:s.TypeIs (.ref e) "enumerate":=⟨_,he,rfl⟩;unfold vo;refine Yc (Oe (wV (name:=lV "__next__") hT Jl
   (u_ Jl hT ZZ ?_ (ZW _))))
  show Y8 _ _ (field (.ref e) 2>>=_) _ _ _;refine Yc (lO he rfl (x:=.ref it) rfl ?_);refine Yc (Zep (I.ok.hd hc) hit pt (by simp;exact lC 2 2268279672881 T1 hl hx) λh' x he' hx'=>?_);obtain⟨o,ho,hc⟩:=hx';refine Yc (Xe (T:="StopIteration") (b:=true) ⟨o,ho,hc⟩ isSubtype_stop ?_);exact Yn ⟨rfl,I.Hu (t':=s.toks) (λb o hb q=>he' b o (λz=>hb (by simp[z])) q) hf⟩
 self:=λ_ _ _ _ _ st h=>by obtain⟨⟨old,he⟩,_⟩:=st;exact zu he h
section
variable {X:Cx} {es:List Expr} {k:Nat} {a:Expr} {p pos tpos:aP} {f:E3}
def ZtV(K:Yb)(ta:TA):TI:=λσ H R=>ta σ H λvs H1=>∃b,vs=[.ref b]/\((∃xs,bD K H1 b xs/\R (Ite λH xs=>bD K H b xs) H1)\/∃xs,cM K H1 b xs/\R (Ite λH xs=>cM K H b xs) H1)
theorem Zsn{ta:TA}(hg:Gl X "enumerate")(hm:X.mg "enumerate" =Yj)(ha:PA X [a] ta)(hs:autoParam (Yq [a] X.env=[(false,aF a X.env)]) qA):PI X (.Tuple es k tpos) (.Call (.Name "enumerate" p) [a] [] pos) (ZtV X.K ta):=by
 intro pins s σ H R I h;refine Call_ (xW I hg hm boot_enumerate (PB (aH (ha pos pins s σ H _ I h) λus s1 ⟨vs,H1,I1,r1,q1⟩=>?_) hs rfl));obtain⟨b,e,q⟩:=q1;subst e;cases r1 with
 | cons r rr=>
  cases rr
  cases r
  have fp:∀{h':au} {s2:Yf},∀c∈[s1.heap.objs.size+1,s1.heap.objs.size],gR X pins H1 c:=λ{h' s2} c hc=>by
   have hc':s1.heap.objs.size<=c:=by simp only[Ym,ig,or_false]at hc;rcases hc with rfl|rfl <;>omega
   exact I1.u0 hc' (I1.hok.fresh hc')
  rcases q with⟨xs,hq,q⟩|⟨xs,hq,q⟩
  .obtain⟨its,rv,pl,hz⟩:=I1.list hq;refine call_enumerate_list pl.isList λh' hE hI hsz hk=>?_;have I2:Inv X pins σ H1 {s1 with heap:=h'}:=I1.kept (t':=s1.toks) hk;exact zu (s:={s1 with heap:=h'}) hE ⟨_,[s1.heap.objs.size+1,s1.heap.objs.size],_,_,H1,rfl,I2,Zms b _ _ (Pj _),⟨⟨_,hE⟩,hI⟩,fp (h':=h') (s2:=s1),q⟩
  .obtain⟨its,rv,pl,hz⟩:=I1.tuple hq;refine Ze4 (show s1.heap.IsTuple b its.toArray from pl) λh' hE hI hsz hk=>?_;have I2:Inv X pins σ H1 {s1 with heap:=h'}:=I1.kept (t':=s1.toks) hk;exact zu (s:={s1 with heap:=h'}) hE ⟨_,[s1.heap.objs.size+1,s1.heap.objs.size],_,_,H1,rfl,I2,Zmt b _ _ (Pj _),⟨⟨_,hE⟩,hI⟩,fp (h':=h') (s2:=s1),q⟩
theorem ZnZ(hm:X.mg "enumerate" =Yj)(h:C3 X a f)(hg:autoParam (Gl X "enumerate") qA)(hs:autoParam (Yq [a] X.env=[(false,aF a X.env)]) qA)(hs':autoParam (Yq (a::[]) X.env=(false,aF a X.env)::Yq [] X.env) qA):CIL X (.Tuple es k tpos) (.Call (.Name "enumerate" p) [a] [] pos) (RM f):=
 PI.imp (Zsn hg hm (Zc h Zf hs') hs) λσ H R ak=>by
  obtain⟨ι,M,env,S,E,h⟩:=ak;obtain⟨d,M1,e1,h⟩:=Bw.bind h;refine⟨ι,M,env,S,E,?_⟩;have e2:Zb f Zg env M= .ok [d] M1:=by unfold Zb;rw[e1];rfl
  rw[e2];intro vs H1 ι1 x1 S1 r1;obtain⟨v,ws,rfl,r,q⟩:=r1.cons_inv;have:=q.nil_inv;subst this;cases d with
  | tup ds=>
   obtain⟨b,vs,rfl,s,r⟩:=r.jk;refine⟨b,rfl,.inr ⟨vs,s,h _ H1 ι1 x1 S1 ?_⟩⟩;intro i H2 ι2 M2 x S2 _;refine⟨λd hd=>?_,λhl=>⟨vs,x.tup _ _ s,by rw[r.length,hl,J9];exact Yo _⟩⟩;rw[J8]at hd;cases hq:ds[i]? with
   |none=>rw[hq]at hd;cases hd|some d0=>rw[hq]at hd;simp only[Np,tV,YG]at hd;subst hd;obtain⟨v,hv,rv⟩:=r.get hq;refine⟨⟨vs,v,x.tup _ _ s,hv⟩,λy H3 hy=>?_⟩;obtain⟨T,y',rfl,hT,rfl,hall⟩:=hy;have e:=hall vs (x.tup _ _ s);rw[hv]at e;cases e;exact S2.tE hT (Zm.cons Rep.int (Zm.cons (rv.mono x) Zm.nil))
  | ref n=>
   cases hm:M1[n]? with
   |none=>simp only[hm]at h;exact h.elim|some o=>
    cases o with
    |dct kvs=>simp only[hm]at h;exact h.elim|cV kvs=>simp only[hm]at h;exact h.elim|ins _ _=>simp only[hm]at h;exact h.elim|lst ds=>
     simp only[hm]at h;obtain⟨b,ha,rfl⟩:=r.e_;obtain⟨vs,q,r⟩:=S1.obj n _ b hm ha;refine⟨b,rfl,.inl ⟨vs,bD.of q,h _ H1 ι1 x1 S1 ?_⟩⟩;intro i H2 ι2 M2 x S2 lk;have Ga:M2[n]?=Ya (.lst ds):=by simpa[je]using lk
     obtain⟨vs2,q2,r2⟩:=S2.obj n _ b Ga (x.pre _ _ ha);refine⟨λd hd=>?_,λhl=>⟨vs2,bD.of q2,by rw[r2.length,hl,J9];exact Yo _⟩⟩;rw[J8]at hd;cases hq:ds[i]? with
     |none=>rw[hq]at hd;cases hd|some d0=>rw[hq]at hd;simp only[Np,tV,YG]at hd;subst hd;obtain⟨v,hv,rv⟩:=r2.get hq;refine⟨⟨vs2,v,bD.of q2,hv⟩,λy H3 hy=>?_⟩;obtain⟨T,y',rfl,hT,rfl,hall⟩:=hy;have e:=hall vs2 (bD.of q2);rw[hv]at e;cases e;exact S2.tE hT (Zm.cons Rep.int (Zm.cons rv Zm.nil))
  |_=>exact h.elim
end
end _L3
namespace _L3
open PySem PySem.Spec PyProof.Rows _L2
section
variable {X:Cx}
theorem ZuA:jr "max" =Ya (.builtin "max"):=by decide +kernel
theorem Zs2{K:Yb}{H:Hp}{ι:List Ys}{i j:Int}{xs:List V}(r:Zm K H ι [.int i,.int j] xs):xs=[.int i,.int j]:=by obtain⟨v1,vs1,rfl,q1,r⟩:=r.cons_inv;obtain⟨v2,vs2,rfl,q2,r⟩:=r.cons_inv;have:=r.nil_inv;subst this;have e1:=q1.int_inv;have e2:=q2.int_inv;subst e1 e2;rfl
theorem Zu5(hc:X.calm=true):cN X (.builtin "max") (rB X.K J7):=cN.imp (ZoQ hc) λxs H Q ak=>by
 obtain⟨ι,M,ds,S,rd,h⟩:=ak;unfold J7 at h;split at h
 .exact⟨_,_,Zs2 rd,h _ H ι Ext.refl S Rep.int⟩
 .exact h.elim
noncomputable def Bx:Yd->D
 | .int i _=>.int i|.bool b=>.bl b|.str x _=>.str x.cps.toList|_=>.non
theorem Tf{K:Yb}{H:Hp}{ι:List Ys}{d:D}{v:V}{y:Yd}(hf:b8 d=true)(r:Rep K H ι d v)(rv:RelV v y):Bx y=d:=by
 cases d with
 |non=>have:=r.iM;subst this;cases rv;rfl|bl b=>have:=r.gC;subst this;cases rv;rfl|int i=>have:=r.int_inv;subst this;obtain⟨t,rfl⟩:=rv;rfl|str x=>have:=r.str_inv;subst this;obtain⟨t,rfl⟩:=rv;rfl
 |_=>simp[b8]at hf
theorem Tg{K:Yb}{H:Hp}{ι:List Ys}{a:D}:∀{ds:List D} {vs:List V} {its:List Yd},Zm K H ι ds vs->Vals vs its->ds.all b8=true->(ds.any λy=>cG y a)=its.any λy=>cG (Bx y) a
 |[],vs,its,r,rv,_=>by have:=r.nil_inv;subst this;cases rv;rfl|d::ds,vs,its,r,rv,hf=>by
  obtain⟨v,ws,rfl,r1,r2⟩:=r.cons_inv;cases rv with
  |cons q rv=>simp only[iU,Y5]at hf;simp only[jY,Tg r2 rv hf.2,Tf hf.1 r1 q]
theorem Ky:bh X (fX .In) (r2 X.K rP):=by
 intro pins s σ H x y v u Q I rx ry ⟨ι,M,a,b,S,ra,rb,h⟩;unfold rP at h;cases b with
 | ref n=>
  cases hn:M[n]? with
  |none=>simp only[hn]at h;exact h.elim|some ob=>
   cases ob with
   |dct _=>simp only[hn]at h;exact h.elim|cV _=>simp only[hn]at h;exact h.elim|ins _ _=>simp only[hn]at h;exact h.elim|lst ds=>
    simp only[hn]at h;by_cases hf:(b8 a&&ds.all b8)=true
    .rw[if_pos hf]at h;rw[Y5]at hf;obtain⟨p,hp,rfl⟩:=rb.e_;cases ry;obtain⟨vs,e1,r1⟩:=S.obj n _ p hn hp;obtain⟨its,rvs,pl,_⟩:=I.list (bD.of e1);have he:∀y,y∈its.toArray->rm X.A.in1 s y v (cG (Bx y) a):=λy hy=>by
      have hy:y∈its:=by simpa using hy
      obtain⟨j,hj⟩:=Ir hy;have hjl:j<vs.length:=by rw[rvs.length];exact(Yh.mp hj).1
      obtain⟨w,hw,i_⟩:=rvs.get (jG hjl);rw[hj]at hw;cases hw;have Gk:j<ds.length:=by rw[←r1.length];exact hjl
      obtain⟨z,hz,rz⟩:=r1.get (jG Gk);rw[jG hjl]at hz;cases hz;have hfl:=gO.mp hf.2 _ (xx Gk);rw[Tf hfl rz i_];exact Kh X.A.in1 ds[j] a _ x y v hfl hf.1 rz ra i_ rx
     refine Z9 (λy=>cG (Bx y) a) pl.isList he ⟨.bl (ds.any λy=>cG y a),H,I,?_,h _ H ι Ext.refl S Rep.bl⟩;show(.bool _:Yd)= .bool _;rw[Tg r1 rvs hf.2];simp
    .rw[if_neg hf]at h;exact h.elim
 |_=>exact h.elim
end
open AutoSeq1 (wpAny_loadPart')
set_option maxRecDepth 100000
section
variable {X:Cx} {o e:Expr} {es:List Expr} {apos cpos:aP} {f:E3} {gl:cW}
theorem Zs6{K:Yb}{T:String}{ty:D->Store->Bool}{m:D->List D->Store->R3 D}(hty:∀H ι M a x,aq K H ι M->Rep K H ι a x->ty a M=true->x_ K T x H)(σ:St)(H:Hp)(Q:VK)(h:kZ K (bB ty m f Zg) σ H Q):Zxd K T (rM K m) (kZ K f) σ H Q:=by
 obtain⟨ι,M,env,S,E,h⟩:=h;obtain⟨a,M1,e1,h⟩:=Zn.bind h;refine⟨ι,M,env,S,E,?_⟩;rw[e1];intro v H1 ι1 x1 S1 r1;by_cases ht:ty a M1=true
 .rw[if_pos ht]at h;exact⟨hty _ _ _ _ _ S1 r1 ht,ι1,M1,a,[],S1,r1,Zm.nil,h.up x1⟩
 .rw[if_neg ht]at h;exact h.elim
theorem ZmT(ho:C3 X o f)(hbase:autoParam (mO o "pop" X.env (aF o X.env)=aF o X.env) qA)(hline:autoParam ((apos.endLine==cpos.line)=true) qA):C3 X (.Call (.Attribute o "pop" apos) [] [] cpos) (bB dF Ax f Zg):=(Zug ZV PySem.F.slot_list_pop PySem.F.type_list_pop Zwu ho hbase hline).imp (Zs6 Zpy)
end
end _L3
namespace _L3
open PySem PySem.Spec PyProof.Rows _L2
set_option maxRecDepth 100000
section
variable {X:Cx} {elt tg iter:Expr} {ifs:List Expr} {scope:Scope} {pos:aP} {i:yo} {own:Nat} {g:G3} {ts:List E3} {f:E3} {N':List aj}
theorem ZhA{pins:List (Ys×aD)}{σ:St}{s2:Yf}{H2:Hp}{ι2:List Ys}{M2:Store}{env:Zx}{it:Ys}{fp:List Ys}{tn:Nat->au->Prop}{J:It}{aV:FJ}{Q:VK}{E:Yd->Yf->Prop}(O:yC X scope N' own)(hc:X.calm=true)(hb:∀C cl s H ex,CG (fP X scope N' C cl s H ex) tg g/\pW (fP X scope N' C cl s H ex) ifs ts/\C3 (fP X scope N' C cl s H ex) elt f)(I2:Inv X pins σ H2 s2)(T:Turn X.prog X.w X.K tg J fp it tn)(st0:tn 0 s2.heap)(hfp:∀b∈fp,gR X pins H2 b)(S2:aq X.K H2 ι2 M2)(E2:bC X.K H2 ι2 env σ)(ok:Kw X.K H2 ι2 aV J)(h:Zn X.K H2 ι2 Q (jf aV.lk g ts f M2.length aV.items (env++Y2 own Yj) (M2++[.lst []])))(RR:Yd->Ys->n8->Yf->Prop)(fin:∀(acc C:Ys) (s':Yf) (m:aj->Option Yd) (H':Hp),s'.heap.Ns C m->gR X pins H' C->Inv X pins σ H' s'->Q (.ref acc) H'->RR (.ref acc) C (.ok .next) s'):
  Y8 (ao X.prog X.w) X.A (newList []) (λacc s₃=>Y8 (ao X.prog X.w) X.A (Oc scope X.env.globals (fZ X.env.cells scope.names []) [] X.env.qual Yj .none (Ya X.env)) (λcenv s₄=>jt (ao X.prog X.w) X.A (.compStart (.ListComp elt [⟨tg,iter,ifs,0⟩] scope pos) 0 (.ref it) acc {cenv with scope:=vh scope X.env}) (RR acc cenv.locals) s₄) E s₃) E s2:=by
 refine qZ ?_;have hD:H2 s2.heap.objs.size=Yj:=I2.hok.fresh (Yo _);obtain⟨x3,S3,r3⟩:=S2.lst hD (Zm.nil (K:=X.K) (H:=H2) (ι:=ι2));have I3:Inv X pins σ (upd H2 s2.heap.objs.size (.lst [])) {s2 with heap:=s2.heap.push {cls:=.type "list",data:=.seq ([]:List Yd).toArray}}:=I2.laid (t':=s2.toks) (λb u e=>Yi _ e) (Yo _) ⟨d8 _,[],0,.nil,Y1 _ rfl⟩;generalize hs3:({s2 with heap:=s2.heap.push {cls:=.type "list",data:=.seq ([]:List Yd).toArray}}:Yf)=s3 at I3 ⊢;have wO:∀b o,s2.heap.get? b=Ya o->s3.heap.get? b=Ya o:=λb o e=>by rw[←hs3];exact Yi _ e
 have lK:∀b∈fp,gR X pins (upd H2 s2.heap.objs.size (.lst [])) b:=λb hb=>by refine⟨?_,(hfp b hb).2⟩;obtain⟨o,e,_⟩:=T.obj _ _ st0 b hb;rw[Zu (dM (Y0 e))];exact(hfp b hb).1
 have u5:∀b∈fp,b<s3.heap.objs.size:=λb hb=>by obtain⟨o,e,_⟩:=T.obj _ _ st0 b hb;exact Y0 (wO b o e)
 have st3:tn 0 s3.heap:=T.keep _ _ _ st0 λb hb o e=>wO b o e;refine W4 O.cell (by intro y hy;cases hy) (λh4 hns hsb=>?_) O.kind;have CZ:∀b o,s3.heap.get? b=Ya o->h4.get? b=Ya o:=λb o e=>hsb.extBut b o (dM (Y0 e)) (Yi _ e);have I4:=Zk8 (own:=own) (N':=N') (tk:=s3.toks+([]:List (aj×Yd)).length) I3 O.kind O.cell O.free O.len O.vis lK u5 hns CZ;have Gj:tn 0 h4:=T.keep _ _ _ st3 λb hb o e=>CZ b o e;have Ng:∀{H':Hp},(∀b∈fp,H' b=Yj)->∀b∈fp,gR (fP X scope N' s3.heap.objs.size (fZ X.env.cells scope.names []) s3 (upd H2 s2.heap.objs.size (.lst [])) fp) [] H' b:=λhn b hb=>by have hc0:∀y∈scope.names,y.2= .free->∃c,X.env.cells.lookup y.1=Ya c:=λy hy e=>I2.ok.has y.1 (O.free y hy e);refine⟨hn b hb,dM (u5 b hb),λhz=>I4.ok.uY b hb hz,.inl hb,λx c hx=>(I4.ok.Ac b hb).2 x c hx,λp hp=>absurd (show p∈([]:List (Ys×aD))from hp) (by simp)⟩
 obtain ⟨hg,hts,helt⟩:=hb s3.heap.objs.size (fZ X.env.cells scope.names []) s3 (upd H2 s2.heap.objs.size (.lst [])) fp;have loop:∀s₄:Yf,s₄={s3 with heap:=h4,toks:=s3.toks+([]:List (aj×Yd)).length} ->
   jt (ao X.prog X.w) X.A (.compLoop (.ListComp elt [⟨tg,iter,ifs,0⟩] scope pos) 0 (.ref it) (.ref s2.heap.objs.size) (Du scope (fZ X.env.cells scope.names []) s3.heap.objs.size X.env)) (RR (.ref s2.heap.objs.size) s3.heap.objs.size) s₄:=by
  rintro s₄ rfl;refine ZgP (λn s'=>∃k σ5 H5 ι5 M5 tG,Inv (fP X scope N' s3.heap.objs.size (fZ X.env.cells scope.names []) s3 (upd H2 s2.heap.objs.size (.lst [])) fp) [] σ5 H5 s'/\tn k s'.heap/\(∀b∈fp,H5 b=Yj)/\n=aV.items.length-k/\k<=aV.items.length/\
   Ext X.K H2 ι2 H5 ι5/\aq X.K H5 ι5 M5/\bC X.K H5 ι5 tG σ5/\ι5[M2.length]?=Ya s2.heap.objs.size/\Zn X.K H5 ι5 Q (jf aV.lk g ts f M2.length (aV.items.drop k) tG M5)) ?_ aV.items.length
   ⟨0,_,_,_,_,_,I4,Gj,λb hb=>(lK b hb).1,rfl,d8 _,x3,S3,(E2.mono x3).grow own,?_,h.up x3⟩
  .rintro n s5 ⟨k,σ5,H5,ι5,M5,tG,I5,j8,oG,rfl,hk,x5,S5,E5,hι,h5⟩;by_cases hlt:k<aV.items.length
   .have hd:aV.items[k]?=Ya aV.items[k]:=by simp[hlt]
    rw[zJ hlt]at h5;unfold jf at h5;by_cases lk:je aV.lk M5=true
    .rw [if_pos lk]at h5;obtain⟨go,yl⟩:=(ok k H5 ι5 M5 x5 S5 lk).1 _ hd;cases eg:g aV.items[k] tG with
     |none=>rw[eg]at h5;exact h5.elim|some tH=>
      rw[eg]at h5;refine aH (T.item (fP X scope N' s3.heap.objs.size (fZ X.env.cells scope.names []) s3 (upd H2 s2.heap.objs.size (.lst [])) fp) rfl rfl rfl hc k [] s5 σ5 H5 (λ_ _=>False) I5 (Ng oG) j8 go) λr s6 ak=>?_;obtain⟨u,hr,h6⟩:=ak;subst hr;refine aH h6 λ_ s7 ak=>?_;obtain⟨x,H7,I7,r7,y7,jP,Ku⟩:=ak;obtain⟨y8,S7,rx⟩:=yl x H7 y7;have I7':=I7.pinned (Ng Ku) (T.obj _ _ jP);refine aH (hg _ s7 σ5 H7 x u (λσ' H'=>H'=H7/\bC X.K H7 ι5 tH σ') I7' r7 ⟨ι5,M5,tG,_,tH,S7,E5.mono y8,rx,eg,λσ' E'=>⟨rfl,E'⟩⟩) λ_ s8 ak=>?_;obtain⟨σ8,H8,I8,e8,E8⟩:=ak;subst e8;replace h5:=Zn.up y8 h5;replace x5:=x5.trans y8;replace S5:=S7;have back:∀{σ':St} {H':Hp} {s':Yf},Inv (fP X scope N' s3.heap.objs.size (fZ X.env.cells scope.names []) s3 (upd H2 s2.heap.objs.size (.lst [])) fp) ([]++t8 fp s7.heap) σ' H' s' ->
        Inv (fP X scope N' s3.heap.objs.size (fZ X.env.cells scope.names []) s3 (upd H2 s2.heap.objs.size (.lst [])) fp) [] σ' H' s'/\tn (k+1) s'.heap/\∀b∈fp,H' b=Yj:=λ{σ' H' s'} I'=>by
       refine⟨I'.CV,T.keep _ _ _ jP λb hb o e=>(I'.pin (b,o) (Y4 _ (Y4 _ (Ae hb e)))).1,λb hb=>?_⟩;obtain⟨o,e,d⟩:=T.obj _ _ jP b hb;exact(I'.pin (b,o) (Y4 _ (Y4 _ (Ae hb e)))).2.1
      obtain⟨b,M9,e9,h9⟩:=Zn.bind h5;refine aH (hts _ s8 σ8 H8 (λb' H'=>b'=b/\∃ι9,Ext X.K H8 ι5 H' ι9/\aq X.K H' ι9 M9) I8 ⟨ι5,M5,tH,S5,E8,by rw[e9];exactλH' ι' x' S'=>⟨rfl,ι',x',S'⟩⟩) λb' s9 ak=>?_;obtain⟨H9,I9,eb,ι9,x9,S9⟩:=ak;subst eb;cases b' with
      |false=>rw[if_neg (by decide)]at h9 ⊢;obtain⟨I9',st9,fr9⟩:=back I9;exact⟨aV.items.length-(k+1),lD 2 0x30113c2012a1c0c21 T1 (j4 (lB 1 6991908881 T1 hlt)) (jH _ _),k+1,σ8,H9,ι9,M9,tH,I9',st9,fr9,rfl,hlt,x5.trans x9,S9,E8.mono x9,x9.pre _ _ hι,h9.up x9⟩|true=>
       rw[if_pos rfl]at h9 ⊢;obtain⟨d,Gi,e10,h10⟩:=Zn.bind h9;refine aH (helt _ s9 σ8 H9 (λv H'=>∃pY,Ext X.K H9 ι9 H' pY/\aq X.K H' pY Gi/\Rep X.K H' pY d v) I9 ⟨ι9,M9,tH,S9,E8.mono x9,by rw[e10];exactλv H' ι' x' S' r'=>⟨ι',x',S',r'⟩⟩) λxv s10 ak=>?_;obtain⟨v,Ss,Su,r10,pY,x10,Kr,rd⟩:=ak;have Nh:pY[M2.length]?=Ya s2.heap.objs.size:=x10.pre _ _ (x9.pre _ _ hι);cases hm:Gi[M2.length]? with
       |none=>rw[hm]at h10;exact h10.elim|some o=>
        cases o with
        |dct _=>rw[hm]at h10;exact h10.elim|cV _=>rw[hm]at h10;exact h10.elim|ins _ _=>rw[hm]at h10;exact h10.elim|lst xs=>
         rw[hm]at h10;by_cases hz:xs.length<SZ
         .simp only[if_pos hz]at h10;obtain⟨vs,ev,rvs⟩:=Kr.obj _ _ _ hm Nh;obtain⟨x11,Sq⟩:=Kr.Df (.inr (.inl ⟨_,ev⟩)) Nh (rvs.append (Zm.cons rd Zm.nil));refine aH (Ri _ s10 σ8 Ss (.ref s2.heap.objs.size) [v] (.ref s2.heap.objs.size) [xv] (λ_ H'=>H'=upd Ss s2.heap.objs.size (.lst (vs++[v]))) Su rfl (.cons r10 .nil) ⟨_,vs,v,rfl,rfl,ev,by rw[rvs.length];exact Y6 hz l_,rfl⟩) λ_ s11 ak=>?_;obtain⟨_,H11,Kq,_,eH⟩:=ak;subst eH;obtain⟨AcK,AcL,AcM⟩:=back Kq;exact⟨aV.items.length-(k+1),lD 2 0x30113c2012a1c0c21 T1 (j4 (lB 1 6991908881 T1 hlt)) (jH _ _),k+1,σ8,_,pY,_,tH,AcK,AcL,AcM,rfl,hlt,((x5.trans x9).trans x10).trans x11,Sq,((E8.mono x9).mono x10).mono x11,Nh,((h10.up x9).up x10).up x11⟩
         .simp only[if_neg hz]at h10;exact h10.elim
    .rw[if_neg lk]at h5;exact h5.elim
   .have e0:k=aV.items.length:=gn hk (iW hlt);subst e0;rw[Iv]at h5;unfold jf at h5;by_cases lk:je aV.lk M5=true
    .rw[if_pos lk]at h5;refine aH (T.done (fP X scope N' s3.heap.objs.size (fZ X.env.cells scope.names []) s3 (upd H2 s2.heap.objs.size (.lst [])) fp) rfl rfl rfl hc _ [] s5 σ5 H5 (λ_ _=>False) I5 (Ng oG) j8 ((ok _ H5 ι5 M5 x5 S5 lk).2 rfl)) λr s6 ak=>?_;obtain⟨hr,I6⟩:=ak;subst hr;obtain⟨m6,Sv,_⟩:=I6.loc;have I7:Inv X pins σ H5 s6:=I3.call' (ch:=fp) I6.os I6.base I6.hok I6.bare λb hb=>⟨(lK b hb).2.2.2.1,(lK b hb).2.1,(lK b hb).2.2.2.2.1,(lK b hb).2.2.2.2.2⟩;exact fin _ _ s6 m6 H5 Sv (I3.u0 (Yo _) I6.free) I7 (h5 _ H5 ι5 Ext.refl S5 (Rep.ref hι))
    .rw[if_neg lk]at h5;exact h5.elim
  .rw[←S2.len];simp
 exact WY (loop _ rfl) (T.self _ 0 _ _ _ Gj (loop _ rfl))
theorem Zxu(O:yC X scope N' own)(Bl:X.xe=λ_ _=>False)(hc:X.calm=true)(hi:CIL X tg iter i)(hb:∀C cl s H ex,CG (fP X scope N' C cl s H ex) tg g/\pW (fP X scope N' C cl s H ex) ifs ts/\C3 (fP X scope N' C cl s H ex) elt f)(hs:∀x,zr iter X.env x=pure x:=by intro _;rfl):C3 X (.ListComp elt [⟨tg,iter,ifs,0⟩] scope pos) (vW i own g ts f):=by intro pins s σ H Q I h;obtain⟨ι,M,env,S,E,h⟩:=h;obtain⟨aV,M1,e1,h⟩:=Zn.bind h;have hc0:∀y∈scope.names,y.2= .free->∃c,X.env.cells.lookup y.1=Ya c:=λy hy e=>I.ok.has y.1 (O.free y hy e);rw[eval_ListComp];refine N6 (use:=Yj) rfl hs (R9 hc0) O.kind O.names ?_;refine aH (hi pins s σ H (λJ H'=>∃ι',Ext X.K H ι H' ι'/\aq X.K H' ι' M1/\Kw X.K H' ι' aV J) I ⟨ι,M,env,S,E,by rw[e1];exactλJ H' ι' x S' o=>⟨ι',x,S',o⟩⟩) λv s1 h1=>aH h1 λitv s2 h2=>?_;obtain⟨it,fp,tn,J,H2,rfl,I2,T,st2,f2,ι2,x2,S2,ok⟩:=h2;refine ZhA (own:=own) (g:=g) (ts:=ts) (f:=f) O hc hb I2 T st2 f2 S2 (E.mono x2) ok (h.up x2) (λacc C=>compPost (ao X.prog X.w) X.A X.xe Yj (EP X pins σ Q) acc C) ?_;intro acc C s' m H' hn hf I' hq;obtain⟨f0,f1,f2',f3,f4,f5⟩:=hf;exact⟨m,hn,λh' sb=>⟨.ref acc,H',I'.turned (t':=s'.toks) (λb o hb e=>(sb.2 b hb).trans e) f0 f1 f3 f4 f5,rfl,hq⟩⟩
theorem ZjS(j:Nat){x:aj}{pos' spos:aP}(O:yC X scope N' own)(Bl:X.xe=λ_ _=>False)(hc:X.calm=true)(hN:X.N.Nodup)(hi:CIL X tg iter i)(hb:∀C cl s H ex,CG (fP X scope N' C cl s H ex) tg g/\pW (fP X scope N' C cl s H ex) ifs ts/\C3 (fP X scope N' C cl s H ex) elt f)(hj:autoParam (X.N[j]?=Ya x) qA)(hx:Loc X.env.scope x:=by first|exact Or.inl rfl|exact Or.inr rfl)(hf:X.fn x=true\/X.env.scope.names.lookup x=Ya .local:=by first|exact .inl rfl|exact .inr rfl)(hsw:autoParam (tR (.ListComp elt [⟨tg,iter,ifs,0⟩] scope pos) (Ya (.Name x pos')) spos.line X.env=pure true) qA)(hs:∀x,zr iter X.env x=pure x:=by intro _;rfl):CS X (.Assign [.Name x pos'] (.ListComp elt [⟨tg,iter,ifs,0⟩] scope pos) spos) (aJ j (vW i own g ts f)):=by
 intro pins s σ H D I h;obtain⟨ι,M,env,S,E,h⟩:=h;have h0:Zn X.K H ι (λv H'=>D.nx (σ.set j (Ya v)) H') (vW i own g ts f env M):=by
  unfold aJ at h;cases q:vW i own g ts f env M with
  |ok d M1=>rw[q]at h;exactλv H1 ι1 x1 S1 r1=>h _ H1 ι1 x1 S1 ((E.mono x1).set j r1)|exc _ _=>rw[q]at h;exact h.elim|bad=>rw[q]at h;exact h.elim
 obtain⟨aV,M1,e1,h1⟩:=Zn.bind h0;have hc0:∀y∈scope.names,y.2= .free->∃c,X.env.cells.lookup y.1=Ya c:=λy hy e=>I.ok.has y.1 (O.free y hy e);rw[exec_Assign_Name_used _ _ _ _ hsw];refine Yc (vd (Yc ?_));show Y8 _ X.A (do let _ ←comprehension (.ListComp elt [⟨tg,iter,ifs,0⟩] scope pos) scope X.env _ (newList []) false (aF iter X.env) (Ya (pH (.Name x pos') X.env))) _ _ s;refine Yc (fj (N6 (use:=Ya (pH (.Name x pos') X.env)) (Q:=λ_ s'=>SP X pins D .next s') rfl hs (R9 hc0) O.kind O.names ?_) (λ_ s' hq=>Yn (Yn hq)) λ_ _ e=>e);refine aH (hi pins s σ H (λJ H'=>∃ι',Ext X.K H ι H' ι'/\aq X.K H' ι' M1/\Kw X.K H' ι' aV J) I ⟨ι,M,env,S,E,by rw[e1];exactλJ H' ι' x S' o=>⟨ι',x,S',o⟩⟩) λv s1 h1'=>aH h1' λitv s2 h2=>?_;obtain⟨it,fp,tn,J,H2,rfl,I2,T,st2,f2,ι2,x2,S2,ok⟩:=h2;refine ZhA (own:=own) (g:=g) (ts:=ts) (f:=f) O hc hb I2 T st2 f2 S2 (E.mono x2) ok (h1.up x2) (λacc C=>compPost (ao X.prog X.w) X.A X.xe (Ya (pH (.Name x pos') X.env)) (λ_ s'=>SP X pins D .next s') acc C) ?_;intro acc C s' m H' hn hfC I' hq;obtain⟨f0,f1,f2',f3,f4,f5⟩:=hfC;show Y8 _ X.A (pH (.Name x pos') X.env (.ref acc)) _ _ s';refine W8 (ZjP I' hN hj hx (show RelV (.ref acc) (.ref acc)from rfl) (λs'' I'' ⟨a,sb,ha⟩=>?_) hf);have hCa:C≠a:=by
  rcases ha with rfl|ha
  .exact f1
  .exact bT (f4 x a ha)
 exact⟨m,hn.sameBut sb hCa,λh' sb'=>⟨_,H',I''.turned (t':=s''.toks) (λb o hb e=>(sb'.2 b hb).trans e) f0 f1 f3 f4 f5,hq⟩⟩
end
open PySem PySem.W PyProof.Rows
section
variable {M:Model} {A:bj} {E:Yd->Yf->Prop} {G:Yf->Prop}
def TT(M:Model)(A:bj)(E:Yd->Yf->Prop)(G:Yf->Prop){α:Type}(m:StateT SortSt jW α)(Q:α->SortSt->Prop)(st:SortSt):Prop:=∀s,G s->kasC M A E m (λa st' s'=>Q a st'/\G s') st s
end
end _L3
namespace _L3
open PySem PySem.Spec PyProof.Rows _L2
noncomputable abbrev nm(f:List Nat):aj:=⟨f.toArray⟩
variable{f:List Nat}
theorem Zpx{g:List Nat}(h:nm f=nm g):f=g:=by have:=congrArg (λs:aj=>s.cps.toList) h;simpa using this
section
variable {K:Yb} {H H':Hp} {ι ι':List Ys} {fs:List (List Nat×D)} {gs:List (aj×V)}
theorem fG.mono(e:Ext K H ι H' ι')(h:fG K H ι fs gs):fG K H' ι' fs gs:=⟨h.1,h.2.mono e⟩
theorem fG.nil:fG K H ι [] []:=⟨rfl,Zm.nil⟩
theorem fG.nil_inv(h:fG K H ι [] gs):gs=[]:=zO.mp h.1
theorem fG.cons_inv{d:D}(h:fG K H ι ((f,d)::fs) gs):∃v gs',gs=(nm f,v)::gs'/\Rep K H ι d v/\fG K H ι fs gs':=by
 cases gs with
 |nil=>cases h.1|cons p gs'=>obtain⟨g,v⟩:=p;obtain⟨h1,h2⟩:=h;rw[Yv,Yv]at h1 h2;obtain⟨e1,e2⟩:=iY h1;obtain⟨v',ws,e,r,q⟩:=h2.cons_inv;obtain⟨rfl,rfl⟩:=iY e;exact⟨v,gs',by rw[show g=nm f from e1],r,e2,q⟩
theorem fG.cons{f:List Nat}{d:D}{v:V}(r:Rep K H ι d v)(h:fG K H ι fs gs):fG K H ι ((f,d)::fs) ((nm f,v)::gs):=⟨by rw[Yv,Yv,h.1],Zm.cons r h.2⟩
theorem fG.length(h:fG K H ι fs gs):gs.length=fs.length:=by have:=congrArg tU h.1;simpa using this
theorem fG.look:∀{fs:List (List Nat×D)} {gs:List (aj×V)},fG K H ι fs gs->(fs.lookup f=Yj->gs.lookup (nm f)=Yj)/\∀d,fs.lookup f=Ya d->∃v,gs.lookup (nm f)=Ya v/\Rep K H ι d v
 |[],_,h=>by rw[h.nil_inv];exact⟨λ_=>rfl,λd e=>by cases e⟩|(g,x)::fs,_,h=>by
  obtain⟨v,gs',rfl,r,t⟩:=h.cons_inv;rw[iT,iT];by_cases e:f=g
  .subst e;rw[beq_self_eq_true,beq_self_eq_true];exact⟨λq=>(by cases q),λd q=>(by cases q;exact⟨v,rfl,r⟩)⟩
  .rw[beq_false_of_ne e,beq_false_of_ne λq=>e (Zpx q)];exact t.look
theorem fG.put{d:D}{v:V}(r:Rep K H ι d v):∀{fs:List (List Nat×D)} {gs:List (aj×V)},fG K H ι fs gs->fG K H ι (vX f d fs) (iG (nm f) v gs)
 |[],_,h=>by rw[h.nil_inv];exact fG.cons r fG.nil|(g,x)::fs,_,h=>by
  obtain⟨w,gs',rfl,r',t⟩:=h.cons_inv;unfold vX iG;by_cases e:g=f
  .subst e;rw[if_pos rfl,if_pos rfl];exact fG.cons r t
  .rw[if_neg e,if_neg λq=>e (Zpx q)];exact fG.cons r' (t.put r)
end
structure yE(K:Yb)(c:List Nat)(C:Ys):Prop where
 gG:ClsAt K c C
 cls:vO K C
 nz:c.head?≠Ya 0
variable{C:Ys}
theorem yE.same{K:Yb}{c:List Nat}{C':Ys}(h:yE K c C)(q:ClsAt K c C'):C'=C:=by have:=q.symm.trans h.gG;cases this;rfl
variable{ps:List aj}{fd:jl}{H:Hp}{F:F3}{ι:List Ys}
section
variable {X:Cx} {o e:Expr} {es:List Expr} {f g:E3} {gl:cW} {c m:List Nat} {C:Ys} {fn:aj} {pos pos' apos p:aP} {x:aj}
theorem Zoo{M:Store}{n:Nat}{a:Ys}(kc:yE X.K c C)(S:aq X.K H ι M)(ha:ι[n]?=Ya a){fs:List (List Nat×D)}(hn:M[n]?=Ya (.ins c fs)):∃dx gs,H a=Ya (.ins C dx gs)/\fG X.K H ι fs gs:=by
 rcases S.obj n _ a hn ha with⟨C',dx,gs,q,ca,fr⟩|⟨_,_,_,z,_⟩
 .rw[kc.same ca.1]at q;exact⟨dx,gs,q,fr⟩
 .exact absurd z kc.nz
theorem uz(kc:yE X.K c C)(nf:rF X.K C (nm m))(he:C3 X e f)(hf:fn=nm m:=by decide +kernel)(hb:autoParam (mO e fn X.env (aF e X.env)=aF e X.env) qA):C3 X (.Attribute e fn pos) (e1 (jg c m) f):=by
 subst hf;refine(ZuZ he hb).imp λσ H Q ak=>?_;obtain⟨ι,M,env,S,E,h⟩:=ak;obtain⟨d,M1,e1,hh⟩:=Zn.bind h;refine⟨ι,M,env,S,E,?_⟩;rw[e1];intro v H1 ι1 x1 S1 r1;cases d with
 | ref n=>
  simp only[ZlW]at hh;cases hn:M1[n]? with
  |none=>simp only[hn]at hh;exact hh.elim|some ob=>
   cases ob with
   | ins c' fs=>
    simp only[hn]at hh;split at hh
    .rename_i ec;subst ec;obtain⟨a,ha,rfl⟩:=r1.e_;obtain⟨dx,gs,q,fr⟩:=Zoo kc S1 ha hn;split at hh
     .rename_i d hl;obtain⟨w,lw,i_⟩:=(fr.look (f:=m)).2 d hl;exact⟨a,C,dx,gs,w,rfl,q,kc.cls,nf,lw,hh w H1 ι1 x1 S1 i_⟩
     .exact hh.elim
    .exact hh.elim
   |_=>simp only[hn]at hh;exact hh.elim
 |_=>exact hh.elim
theorem ZqD(kc:yE X.K c C)(nf:rF X.K C (nm m))(ho:C3 X o f)(hv:C3 X e g)(hf:fn=nm m:=by decide +kernel)(hs:autoParam (tR e (Ya (.Attribute o fn pos')) pos.line X.env=pure false) qA):CS X (.Assign [.Attribute o fn pos'] e pos) (FN c m f g):=by
 subst hf;refine(Zt0 ho hv hs).imp λD' σ H ak=>?_;obtain⟨ι,M,env,S,E,hh⟩:=ak;have hh:=Zp1 E hh;obtain⟨d,M1,e1,hh⟩:=Zn.bind hh;obtain⟨b,M2,e2,hh⟩:=Zn.bind hh;refine⟨ι,M,env,S,E,?_⟩;rw[e1];intro y H1 ι1 x1 S1 r1;refine⟨ι1,M1,env,S1,E.mono x1,?_⟩;rw[e2];intro w H2 ι2 x2 S2 r2;cases b with
 | ref n=>
  simp only[RP]at hh;cases hn:M2[n]? with
  |none=>simp only[hn]at hh;exact hh.elim|some ob=>
   cases ob with
   | ins c' fs=>
    simp only[hn]at hh;split at hh
    .rename_i ec;obtain⟨ec,lf⟩:=ec;subst ec;obtain⟨a,ha,rfl⟩:=r2.e_;obtain⟨dx,gs,q,fr⟩:=Zoo kc S2 ha hn;have l0:Loose H2 a:=.inr (.inr (.inr ⟨C,dx,gs,q⟩));have x3:Ext X.K H2 ι2 (upd H2 a (.ins C dx (iG (nm m) y gs))) ι2:=l0.ext;have S3:aq X.K (upd H2 a (.ins C dx (iG (nm m) y gs))) ι2 (M2.set n (.ins c' (vX m d fs))):=S2.put l0 ha (.inl ⟨C,dx,_,fY,⟨kc.gG,kc.nz⟩,(fr.put (r1.mono x2)).mono x3⟩);exact⟨a,C,dx,gs,rfl,q,kc.cls,nf,by rw[fr.length];exact lf,hh .non _ _ ((x1.trans x2).trans x3) S3 Rep.non⟩
    .exact hh.elim
   |_=>simp only[hn]at hh;exact hh.elim
 |_=>exact hh.elim
def Th(P:aZ)(w:aU)(K:Yb)(mg:aj->Option Yd)(base:au)(k:Nat)(C:Ys)(m:aj)(ps:List aj)(F:F3):Prop:=(∀ds M,ds.length≠ps.length->F ds M= .bad)/\∃f fd,Meth K C m f/\Binds K fd ps []/\fM P w K mg base jK k f fd ps (rR K ps.length F)
theorem Th.mono{P:aZ}{w:aU}{K:Yb}{mg:aj->Option Yd}{base:au}{C:Ys}{j k:Nat}{x:aj}(h:Th P w K mg base j C x ps F)(l:j<=k):Th P w K mg base k C x ps F:=let⟨n,f,fd,a,b,d⟩:=h;⟨n,f,fd,a,b,d.mono l⟩
theorem ZuV{k:Nat}{fa:Ys}(gG:ClsAt X.K c C/\c.head?≠Ya 0)(Mc:Mk X.K C fa)(hF:∀ds M,ds.length≠ps.length->F ds M= .bad)(ok:fM X.prog X.w X.K X.mg X.base jK k fa fd ps (rR X.K ps.length F))(bi:Binds X.K fd ps [])(hm:X.mg x=Ya (.ref C))(hr:cD (k+1) X.A)(ha:CA X (e::es) gl)(hg:autoParam (Gl X x) qA)(hdb:autoParam ((x==("__debug__":aj))=false) qB)(he:autoParam (Yq (e::es) X.env=(false,aF e X.env)::Yq es X.env) qA)(hpl:autoParam ((bK pos (Yq es X.env)).any (·.1)=false) qA):C3 X (.Call (.Name x p) (e::es) [] pos) (yp c F gl):=by
 refine(Zsx Mc ok hr hg hm bi .nil Ztw ha hdb he hpl).imp λσ H Q ak=>?_;obtain⟨ι,M,env,S,E,h⟩:=ak;obtain⟨ds,M1,e1,h⟩:=Zn.bind h;refine⟨ι,M,env,S,E,?_⟩;rw[e1];intro vs H1 ι1 x1 S1 r1 y dx hy hd ne;have y2:upd H1 dx (.own y) y=Yj:=by rw[Zu (bT ne)];exact hy
 have x2:Ext X.K H1 ι1 (upd H1 dx (.own y)) ι1:=Loose.ext (.inl hd);have S2:aq X.K (upd H1 dx (.own y)) ι1 M1:=S1.other (.inl hd) (S1.fresh hd);have x3:Ext X.K (upd H1 dx (.own y)) ι1 (upd (upd H1 dx (.own y)) y (.ins C dx [])) (ι1++[y]):=Loose.Dd (.inl y2);have S3:aq X.K (upd (upd H1 dx (.own y)) y (.ins C dx [])) (ι1++[y]) (M1++[.ins c []]):=S2.new y2 (.inl ⟨C,dx,[],fY,gG,fG.nil⟩);have hy':(ι1++[y])[M1.length]?=Ya y:=by rw[←S1.len];simp
 have rr:Rep X.K (upd (upd H1 dx (.own y)) y (.ins C dx [])) (ι1++[y]) (.ref M1.length) (.ref y):=Rep.ref hy';cases q:F (.ref M1.length::ds) (M1++[.ins c []])with
 |bad=>simp only[q]at h;exact h.elim|exc _ _=>simp only[q]at h;exact h.elim|ok d M2=>
  have hl:(D.ref M1.length::ds).length=ps.length:=by refine Jo λz=>?_;rw[hF _ _ z]at q;cases q
  refine⟨ι1++[y],M1++[.ins c []],.ref M1.length::ds,S3,by rw[iD];exact Zm.cons rr ((r1.mono x2).mono x3),hl,?_⟩;rw[q];simp only[q]at h;cases d with
  |non=>intro v H4 ι4 x4 S4 r4;exact⟨r4.iM,h _ H4 ι4 (((x1.trans x2).trans x3).trans x4) S4 (rr.mono x4)⟩|_=>exact h.elim
end
noncomputable def ZnB(s:Ydr):List Ydr:=match s with
 | .ClassDef _ _ _ b _ _ _ _ _ _ _=>b|_=>[]
def Kz(K:Yb)(C:Ys)(qual:aj)(st:Ydr)(ps:List aj):Prop:=∃f fd,oK K "__init__" qual st f fd/\Mk K C f/\Binds K fd ps []
def yF(P:aZ)(w:aU)(K:Yb)(mg:aj->Option Yd)(base:au)(k:Nat)(C:Ys)(ps:List aj)(F:F3):Prop:=(∀ds M,ds.length≠ps.length->F ds M= .bad)/\∃f fd,Mk K C f/\Binds K fd ps []/\fM P w K mg base jK k f fd ps (rR K ps.length F)
section
variable {P:aZ} {w:aU} {K:Yb} {mg:aj->Option Yd} {base:au} {C f:Ys} {m qual:aj} {st:Ydr} {N ps:List aj} {k:Nat} {body:S3} {oc:Yd} {od an:Option Ys} {osl:Array (Option Yd)} {dV kV doc pm cdv ct:Yd}
theorem Zsg(mk:HF K C=true)(kc:pB K (.ref C)=true)(a:Y7 K (.ref C) "__init__" =Ya (Ya (.ref f)))(i:HN K (.ref f)=true)(l:K.lookup f=Ya ⟨oc,od,.func (nZ "__init__" qual (cO st) (bU st) (Zh st) dV kV doc pm an cdv ct),osl⟩)(c:zq K cdv qual=true)(kp:pB K (.ref f)=true)(b:Binds K (nZ "__init__" qual (cO st) (bU st) (Zh st) dV kV doc pm an cdv ct) ps []):Kz K C qual st ps:=⟨f,_,⟨⟨oc,od,dV,kV,doc,pm,an,cdv,ct,osl,rfl,l,c⟩,kp⟩,⟨mk,a,i,kc⟩,b⟩
theorem yF.of(d:Kz K C qual st ps)(S:dw N ps (Zh st))(hb:∀(f:Ys) (cdv:Yd) (A:bj) (outer:List cH) (s:Yf) (H:Hp) (E:XK),cD k (A.deeper (j7 qual (Zh st) s.heap.objs.size f cdv))->mj (mZ jK P w K mg base N qual (Zh st) f cdv A outer s H E).iu (bU st) body):
  yF P w K mg base (k+1) C ps (bL ps.length N.length body):=by
 obtain⟨f,fd,F,mk,bi⟩:=d;exact⟨λds M h=>if_neg h,f,fd,mk,bi,RW F S (hb f)⟩
end
theorem ZwA{X:Cx}{e:Expr}{es:List Expr}{gl:cW}{c:List Nat}{pos p:aP}{x:aj}{k:Nat}(kc:yE X.K c C)(G:yF X.prog X.w X.K X.mg X.base k C ps F)(hm:X.mg x=Ya (.ref C))(hr:cD (k+1) X.A)(ha:CA X (e::es) gl)(hg:autoParam (Gl X x) qA)(hdb:autoParam ((x==("__debug__":aj))=false) qB)(he:autoParam (Yq (e::es) X.env=(false,aF e X.env)::Yq es X.env) qA)(hpl:autoParam ((bK pos (Yq es X.env)).any (·.1)=false) qA):C3 X (.Call (.Name x p) (e::es) [] pos) (yp c F gl):=by obtain⟨hF,f,fd,mk,bi,ok⟩:=G;exact ZuV ⟨kc.gG,kc.nz⟩ mk hF ok bi hm hr ha hg hdb he hpl
theorem ZqF{P:aZ}{w:aU}{h:au}{e:Ys}{dd:Option Ys}(x:yr e C dd h):cR P w H h e (uq e C dd):=⟨x,(let⟨o,_,q,_⟩:=x;⟨o,q⟩),λ_ _ z k=>let⟨o,vs,a,b,c⟩:=z;⟨o,vs,k o a,b,c⟩⟩
theorem Q5{P:aZ}{w:aU}{h:au}{a:Ys}{o:HO}(x:cR P w H h a o):∃u,h.get? a=Ya u:=by
 cases o with
 |lst xs=>obtain⟨_,_,_,_,e⟩:=x;exact⟨_,e⟩|tup xs=>obtain⟨_,_,_,o,e,_⟩:=x;exact⟨o,e⟩|dK kvs=>obtain⟨_,_,_,_,o,_,_,e,_⟩:=x;exact⟨o,e⟩|dT kvs=>obtain⟨_,_,_,_,o,_,_,e,_⟩:=x;exact⟨o,e⟩
 |set S n=>obtain⟨o,_,_,_,e,_⟩:=x;exact⟨o,e⟩|ins C dx fs=>obtain⟨_,_,_,e,_⟩:=x;exact⟨_,e⟩|own y=>exact x|xd fs=>obtain⟨_,⟨o,_,_,e,_⟩,_⟩:=x;exact⟨o,e⟩
 |JB lo hi=>obtain⟨_,_,_,e⟩:=x;exact⟨_,e⟩|b7 ob u=>obtain⟨e,_⟩:=x;exact⟨_,e⟩|vM ps=>exact⟨_,x⟩|met f y=>exact⟨_,x⟩
 |ext φ=>exact x.2.1
def Dct(e:Ys)(dd:Option Ys)(h:au):Prop:=∃o,h.get? e=Ya o/\o.dict=dd
def su(B:au)(l:List cH)(e C:Ys)(dd:Option Ys)(a0:Yd)(h:au):Prop:=B.StaysIn h/\B.get? e=Yj/\h.FunFrames B l/\Dct e dd h/\∃fl,h.TracedAtW B e (.ref C) a0 fl
def sy(B:au)(l:List cH)(e C:Ys)(dd:Option Ys)(h:au):Prop:=∃a0,su B l e C dd a0 h\/(B.StaysIn h/\B.get? e=Yj/\h.FunFrames B l/\∃oe vs,h.get? e=Ya oe/\oe.cls= .ref C/\oe.data= .fields vs/\vs[0]?=Ya a0/\vs[1]?=Ya .none/\oe.dict=dd)
section
variable {B h h':au} {l:List cH} {e C:Ys} {dd:Option Ys}
theorem su.BJ{a0:Yd}(f:su B l e C dd a0 h):yr e C dd h:=by obtain⟨_,_,_,⟨o',a',d'⟩,_,o,vs,_,_,_,a,b,c,_⟩:=f;rw[a]at a';cases a';exact⟨_,vs,a,b.1,c,d'⟩
theorem su.tail{a0:Yd}{env:cH}(f:su B (env::l) e C dd a0 h):su B l e C dd a0 h:=let⟨a,b,⟨_,_,c⟩,d⟩:=f;⟨a,b,c,d⟩
theorem sy.stays(f:sy B l e C dd h):B.StaysIn h:=by
 obtain⟨a0,f|f⟩:=f
 .exact f.1
 .exact f.1
theorem sy.BJ(f:sy B l e C dd h):yr e C dd h:=by
 obtain⟨a0,f|⟨_,_,_,oe,vs,a,b,c,_,_,d⟩⟩:=f
 .exact f.BJ
 .exact⟨oe,vs,a,b,c,d⟩
end
section
variable {M:Model} {A:bj} {E:Yd->Yf->Prop} {s:Yf} {B:au} {env:cH} {outer l:List cH} {L e C:Ys} {dd:Option Ys} {Q:Unit->Yf->Prop}
theorem Zq2(f:Array Yd->Array Yd)(o:aD):(xP f o).dict=o.dict:=by obtain⟨c,d,da,sl⟩:=o;cases da<;>rfl
theorem Znj{oe:aD}{vs:Array Yd}{head a0:Yd}{hadNext:Bool}(hfr:A.frames=Ya (env::outer))(hl:s.heap.FunFrames B (env::outer))(hf:env.frame=Ya L)(he:s.heap.get? e=Ya oe)(hkb:B.StaysIn s.heap)(hen:B.get? e=Yj)(hc:oe.cls= .ref C)(hd:oe.data= .fields vs)(hsz:1<vs.size)(h0:vs[0]?=Ya a0)(hdd:oe.dict=dd)(hQ:∀h',su B (env::outer) e C dd a0 h'->s.heap.UpToSlots h'->Q () {s with heap:=h'}):
  Y8 M A (do let a ←frameOf env;let pl ←entryPlaceOf L hadNext;let b ←Yj8 head a .none (jV L) .none pl;setField (.ref e) 1 b) Q E s:=by
 have Acr:e∉(env::outer).filterMap (·.frame):=λz=>by obtain⟨_,o,q,nf⟩:=hl.mem z;rw[he]at q;cases q;exact nf vs hd
 refine Yc (wpAny_frameOf_fun hfr hl hf λk only=>Yc (wpAny_entryPlaceOf λpl hpl=>?_));unfold Yj8 newFields;refine Yc (qZ ?_ (hpl.sizeOk5 _ _ _ _ _));have ke:k.get? e=Ya oe:=(only.2.1 e Acr).trans he;have kB:B.StaysIn k:=λb o q=>(only.2.1 b λz=>by rw[(hl.mem z).1]at q;cases q).trans (hkb b o q);generalize hT:({cls:=.type "traceback",dict:=Yj,data:=.fields ([head,.ref L,.none,jV L,.none]++(if pl.isEmpty then Y2 6 Value.none else pl)).toArray}:aD)=tb;have ke2:=Yi (h:=k) tb ke;have ne:k.objs.size≠e:=xN (Y0 ke);have tbd:tb.data= .fields ([head,.ref L,.none,jV L,.none]++(if pl.isEmpty then Y2 6 Value.none else pl)).toArray:=by rw[←hT]
 have fr:tb.isFreed=false:=by rw[←hT];rfl
 have d3:=Eg hd (·.setIfInBounds 1 (Value.ref k.objs.size));have e3:=xJ (xP (·.setIfInBounds 1 (Value.ref k.objs.size))) ke2 (Qq d3);have t3:=(mR (k.push tb) (xP (·.setIfInBounds 1 (Value.ref k.objs.size))) (bT ne)).trans (Y1 k fr);have stay:∀b o,b≠e->k.get? b=Ya o->((k.push tb).update e (xP (·.setIfInBounds 1 (Value.ref k.objs.size)))).get? b=Ya o:=λb o hb q=>(mR _ _ (bT hb)).trans (Yi _ q);have nr:∀b o,s.heap.get? b=Ya o->(∀vs,o.data≠ .fields vs)->b≠e:=λb o q nf z=>by rw[z,he]at q;cases q;exact nf vs hd
 refine Dp ke2 hd hsz (hQ _ ⟨λb o q=>stay b o (λz=>by rw[z,hen]at q;cases q) (kB b o q),hen,hl.of_keeps λb o q nf=>?_,⟨_,e3,?_⟩,jV L,_,_,k.objs.size,_,_,e3,⟨(Z8 _ _).trans hc,?_⟩,d3,?_,kB.fresh,ne,t3,tbd,?_⟩ λb o q nf=>?_)
 .obtain⟨sl,z⟩:=only.2.2 b o q;exact⟨_,stay b _ (nr b o q nf) z,rfl⟩
 .exact(Zq2 _ _).trans hdd
 .rw[ZK (by decide)];exact h0
 .simp[hsz]
 .first
   |(simp;done)
   |(rcases hpl with rfl|⟨_,_,_,_,_,_,_,rfl⟩<;>simp)
 .obtain⟨sl,z⟩:=only.2.2 b o q;exact⟨sl,stay b _ (nr b o q nf) z⟩
theorem Zqq(hfr:A.frames=Ya (env::outer))(hf:env.frame=Ya L)(f:sy B (env::outer) e C dd s.heap)(hQ:∀h' a0,su B (env::outer) e C dd a0 h'->s.heap.UpToSlots h'->Q () {s with heap:=h'}):Y8 M A (Dt (.ref e) env) Q E s:=by
 obtain⟨a0,f|⟨f1,f2,f3,oe,vs,he,hc,hd,h0,h1,hdd⟩⟩:=f
 .have f0:=f;obtain⟨f1,f2,f3,dc,fl,ht⟩:=f;by_cases q:fl=jV L
  .rw[q]at ht;exact wpAny_noteFrame_againW hf ht (hQ s.heap a0 f0 (Heap.UpToSlots.refl _))
  .obtain⟨oe,vs,T,oT,ts,he,⟨hcls,h0⟩,hd,h1,hnT,hTe,hT,hdT,h3⟩:=ht;obtain⟨o',ho',hdd⟩:=dc;rw[he]at ho';cases ho';unfold Dt;simp only[hf];refine Yc (lO he hd h1 ?_);rw[if_pos (show(Value.ref T !=Value.none)=true from by simp)];refine Yc (lO hT hdT h3 ?_);rw[if_neg (show¬((fl==jV L)=true)from by simpa using q)];refine Yc (Dp hT hdT (Jk.mp h3).1 ?_);have other:∀b,b≠T->(s.heap.update T (xP (·.setIfInBounds 3 Value.none))).get? b=s.heap.get? b:=λb hb=>mR _ _ (bT hb);have nr:∀b o,s.heap.get? b=Ya o->(∀vs,o.data≠ .fields vs)->b≠T:=λb o hb hnf q=>by
    rw[q,hT]at hb;injection hb with hb;subst hb;exact hnf ts hdT
   exact Znj hfr (f3.of_keeps λb o hb hnf=>⟨o,(other b (nr b o hb hnf)).trans hb,rfl⟩) hf ((other e (bT hTe)).trans he)
    (λb o hbo=>(other b λq=>by rw[q,hnT]at hbo;cases hbo).trans (f1 b o hbo)) f2 hcls hd (Jk.mp h1).1 h0 hdd λh' BK sl=>hQ h' a0 BK λb o hb hnf=>sl b o ((other b (nr b o hb hnf)).trans hb) hnf
 .unfold Dt;simp only[hf];refine Yc (lO he hd h1 ?_);rw[if_neg (by decide)];exact Znj hfr f3 hf he f1 f2 hc hd (Jk.mp h1).1 h0 hdd λh' x y=>hQ h' a0 x y
theorem Ti{a0:Yd}{fo:Option Ys}(f:su B l e C dd a0 s.heap)(hQ:∀h',su B l e C dd a0 h'->s.heap.UpToSlots h'->Q () {s with heap:=h'}):Y8 M A (setFlight (.ref e) fo) Q E s:=by
 obtain⟨f1,f2,f3,⟨o',ho',hdd⟩,fl,oe,vs,T,oT,ts,he,hcls,hd,h1,hnT,hTe,hT,hdT,h3⟩:=f;rw[he]at ho';cases ho';have hsz:3<ts.size:=(Jk.mp h3).1;unfold setFlight;refine Yc (lO he hd h1 ?_);rw[if_pos (show(Value.ref T !=Value.none)=true from by simp)];generalize hv:(fo.elim Value.none λf=>jV f)=fv;have other:∀b,b≠T->(s.heap.update T (xP (·.setIfInBounds 3 fv))).get? b=s.heap.get? b:=λb hb=>mR _ _ (bT hb);have nr:∀b o,s.heap.get? b=Ya o->(∀vs,o.data≠ .fields vs)->b≠T:=λb o hb hnf q=>by rw[q,hT]at hb;injection hb with hb;subst hb;exact hnf ts hdT
 exact Dp hT hdT hsz (hQ _ ⟨λb o hbo=>(other b λq=>by rw[q,hnT]at hbo;cases hbo).trans (f1 b o hbo),f2,f3.of_keeps λb o hb hnf=>⟨o,(other b (nr b o hb hnf)).trans hb,rfl⟩,⟨_,(other e (bT hTe)).trans he,hdd⟩,fv,_,vs,T,_,_,(other e (bT hTe)).trans he,hcls,hd,h1,hnT,hTe,
  xJ _ hT (Qq (Eg hdT _)),Eg hdT _,by simp[hsz]⟩ λb o hb hnf=>⟨o.slots,(other b (nr b o hb hnf)).trans hb⟩)
theorem ZrO(hfr:A.frames=Ya (env::outer))(hf:env.frame=Ya L)(f:sy B (env::outer) e C dd s.heap)(hQ:∀h',sy B outer e C dd h'->s.heap.UpToSlots h'->Q () {s with heap:=h'}):Y8 M A (Ik env (.ref e)) Q E s:=by unfold Ik;exact Yc (Zqq hfr hf f λh1 a0 x y=>Ti x λh' z y'=>hQ h' ⟨a0,.inl z.tail⟩ (y.trans y'))
end
structure yG(B:au)(fs ex:List Ys)(H₀:Hp)(h₀:au)(H:Hp)(e:Ys):Prop where
 xT:∀b,H b≠Yj->b≠e->∃o,B.get? b=Ya o
 old:∀b o,h₀.get? b=Ya o->H₀ b=Yj->b∉fs->b∉ex->B.get? b=Ya o
 there:∀b o,h₀.get? b=Ya o->b∉fs->b∉ex->∃o',B.get? b=Ya o'
section
variable {B h h' h₀:au} {fs ex:List Ys} {H H₀:Hp} {e C:Ys} {dd:Option Ys} {P:aZ} {w:aU}
theorem yG.hok(c:yG B fs ex H₀ h₀ H e)(ok:fD P w H h)(he:H e=Ya (uq e C dd))(s1:B.StaysIn h)(s2:B.StaysIn h')(x:yr e C dd h'):fD P w H h':=λb u q=>by
 by_cases hb:b=e
 .subst hb;rw[he]at q;cases q;exact ZqF x
 .refine(ok b u q).stay (λd v hd z=>?_) (λ_ z=>z) λ_ _ z=>z;have hd':H d≠Yj/\d≠e:=by
   rcases hd with rfl|hd
   .exact⟨by rw[q];simp,hb⟩
   .exact⟨by rw[hd];simp,by rintro rfl;rw[he]at hd;cases hd⟩
  obtain⟨o,ho⟩:=c.xT d hd'.1 hd'.2;have:=(s1 d o ho).symm.trans z;cases this;exact s2 d _ ho
theorem yG.un(c:yG B fs ex H₀ h₀ H e)(u:Un fs ex H₀ H h₀ h)(s2:B.StaysIn h')(sl:h.UpToSlots h')(nf:∀b∈fs,H₀ b=Yj/\∀o,h₀.get? b=Ya o->∀vs,o.data≠ .fields vs):Un fs ex H₀ H h₀ h' where
 keep:=λb o q n hb hx=>s2 b o (c.old b o q n hb hx)
 slot:=λb o q n hb hx=>by obtain⟨s,e1⟩:=u.slot b o q n hb hx;obtain⟨s',e2⟩:=sl b _ e1 ((nf b hb).2 o q);exact⟨s',e2⟩
 free:=u.free
 there:=λb o q hx=>by
  by_cases hb:b∈fs
  .obtain⟨s,e1⟩:=u.slot b o q (nf b hb).1 hb hx;obtain⟨s',e2⟩:=sl b _ e1 ((nf b hb).2 o q);exact⟨_,e2⟩
  .exact let⟨o',z⟩:=c.there b o q hb hx;⟨o',s2 b o' z⟩
 tups:=u.tups
 jD:=u.jD
 jR:=u.jR
end
noncomputable def o6(P:aZ)(w:aU):mY:=λouter H s E ev s'=>∃e C dd H' B,ev= .ref e/\s'.os=s.os/\q_ s'.gens/\Un (frs outer) [] H H' s.heap s'.heap/\fD P w H' s'.heap/\H' e=Ya (uq e C dd)/\
 sy B outer e C dd s'.heap/\yG B (frs outer) [] H s.heap H' e/\E (.ref C) (Ya e) H'
def Tj(X:Cx)(e C:Ys)(H':Hp)(s':Yf):Prop:=∃dd,H' e=Ya (uq e C dd)/\∃B,sy B X.stack e C dd s'.heap/\yG B X.fs X.ex X.H₀ X.s₀.heap H' e/\∀p∈X.pn,B.get? p.1=Ya p.2
def XW(X:Cx)(σ:St)(e C:Ys)(H':Hp):Prop:=∀pins s',Inv X pins σ H' s'->Tj X e C H' s'->X.xe (.ref e) s'
noncomputable def EX(X:Cx)(σ:St):XK:=λcv oe H'=>∀e C,cv= .ref C->oe=Ya e->XW X σ e C H'
section
variable {X:Cx} {pins:List (Ys×aD)} {σ:St} {H:Hp} {s s':Yf}
theorem Tn(I:Inv X pins σ H s){b:Ys}{o:aD}(q:X.s₀.heap.get? b=Ya o)(hb:b∉X.fs):b∉frs X.stack:=λz=>by
 rcases Ym.mp (I.zj b z)with e|e
 .exact absurd (Y6 (Y0 q) I.ok.above) (by rw[e];exact vH _)
 .exact hb e
theorem Zp7(I:Inv X pins σ H s):∀b∈X.fs,X.H₀ b=Yj/\∀o,X.s₀.heap.get? b=Ya o->∀vs,o.data≠ .fields vs:=λb hb=>⟨I.ok.pM b hb,λo q=>by obtain⟨_,o',ho,hd⟩:=I.ok.jE.mem hb;rw[ho]at q;cases q;exact hd⟩
theorem Zxt(I:Inv X pins σ H s){E:XK}{ev:Yd}(h:o6 X.prog X.w X.stack H s E ev s'):∃e C H',ev= .ref e/\Inv X pins σ H' s'/\Tj X e C H' s'/\E (.ref C) (Ya e) H':=by
 obtain⟨e,C,dd,H',B,rfl,os,bare,un,hok,he,fl,cv,hE⟩:=h;refine⟨e,C,H',rfl,I.call' os un hok bare (λb z=>nomatch z),⟨dd,he,B,fl,⟨cv.xT,λb o q n hb hx=>?_,λb o q hb hx=>?_⟩,λp hp=>?_⟩,hE⟩
 .exact cv.old b o (I.base.keep b o q n hb hx) (I.base.free b o q n hx) (Tn I q hb) (λz=>nomatch z)
 .obtain⟨o1,q1⟩:=I.base.there b o q hx;exact cv.there b o1 q1 (Tn I q hb) (λz=>nomatch z)
 .obtain⟨e,n,ne,nf,_⟩:=I.pin p (n_ _ hp);exact cv.old p.1 p.2 e n (λz=>(Ym.mp (I.zj p.1 z)).elim ne nf) (λz=>nomatch z)
end
def v9(K:Yb)(H:Hp)(ι:List Ys)(Q:VK)(E:XK)(r:R3 D):Prop:=match r with
 | .ok d M'=>∀v H' ι',Ext K H ι H' ι'->aq K H' ι' M'->Rep K H' ι' d v->Q v H'|.exc x M'=>∀e C H' ι',Ext K H ι H' ι'->aq K H' ι' M'->Rep K H' ι' x.arg (.ref e)->ClsAt K x.cls C->E (.ref C) (Ya e) H'|.bad=>False
theorem v9.up{K:Yb}{H1:Hp}{ι1:List Ys}{Q:VK}{E:XK}{r:R3 D}(e:Ext K H ι H1 ι1)(h:v9 K H ι Q E r):v9 K H1 ι1 Q E r:=by
 cases r with
 |ok d M=>exactλv H' ι' e' S r=>h v H' ι' (e.trans e') S r|exc x M=>exactλa C H' ι' e' S r=>h a C H' ι' (e.trans e') S r|bad=>exact h
theorem Zn.x{K:Yb}{H:Hp}{ι:List Ys}{Q:VK}{E:XK}{r:R3 D}(h:Zn K H ι Q r):v9 K H ι Q E r:=by
 cases r with
 |ok d M=>exact h|exc x M=>exact h.elim|bad=>exact h
noncomputable def Tp(K:Yb)(n:Nat)(F:F3):Sp:=λvs H Q E=>∃ι M ds,aq K H ι M/\Zm K H ι ds vs/\ds.length=n/\v9 K H ι Q E (F ds M)
def Zx9(X:Cx)(f:E3):TE:=λσ H Q=>∃ι M env,aq X.K H ι M/\bC X.K H ι env σ/\v9 X.K H ι Q (EX X σ) (f env M)
def pZ(X:Cx)(any:Bool)(σ:St)(H:Hp)(ι:List Ys)(E:Ends)(r:O3):Prop:=match r with
 | .nx env' M'=>∀σ' H' ι',Ext X.K H ι H' ι'->aq X.K H' ι' M'->bC X.K H' ι' env' σ'->E.nx σ' H'|.bk env' M'=>∀σ' H' ι',Ext X.K H ι H' ι'->aq X.K H' ι' M'->bC X.K H' ι' env' σ'->E.bk σ' H'|.ct env' M'=>∀σ' H' ι',Ext X.K H ι H' ι'->aq X.K H' ι' M'->bC X.K H' ι' env' σ'->E.ct σ' H'|.rt d M'=>∀v H' ι',Ext X.K H ι H' ι'->aq X.K H' ι' M'->Rep X.K H' ι' d v->E.rt v H'
 | .exc x M'=>∀σ' e C H' ι',(any=false->σ'=σ)->Ext X.K H ι H' ι'->aq X.K H' ι' M'->Rep X.K H' ι' x.arg (.ref e)->ClsAt X.K x.cls C->XW X σ' e C H'|.bad=>False
def Zwo(X:Cx)(any:Bool)(f:S3):TS:=λE σ H=>∃ι M env,aq X.K H ι M/\bC X.K H ι env σ/\pZ X any σ H ι E (f env M)
def Gm(X:Cx)(e:Expr)(f:E3):Prop:=PE X e (Zx9 X f)
def uD(X:Cx)(any:Bool)(st:Ydr)(f:S3):Prop:=PS X st (Zwo X any f)
def sE(X:Cx)(any:Bool)(st:List Ydr)(f:S3):Prop:=iZ X st (Zwo X any f)
variable{σ:St}
theorem pZ.up{X:Cx}{any:Bool}{σ1:St}{H1:Hp}{ι1:List Ys}{Q:Ends}{r:O3}(e:Ext X.K H ι H1 ι1)(hs:any=false->σ1=σ)(h:pZ X any σ H ι Q r):pZ X any σ1 H1 ι1 Q r:=by
 cases r with
 |nx d M=>exactλv H' ι' e' S r=>h v H' ι' (e.trans e') S r|bk d M=>exactλv H' ι' e' S r=>h v H' ι' (e.trans e') S r|ct d M=>exactλv H' ι' e' S r=>h v H' ι' (e.trans e') S r|rt d M=>exactλv H' ι' e' S r=>h v H' ι' (e.trans e') S r
 |exc x M=>exactλσ' a C H' ι' z e' S r=>h σ' a C H' ι' (λq=>(z q).trans (hs q)) (e.trans e') S r|bad=>exact h
theorem Zqb{f:S3}{X:Cx}{any:Bool}{env:Zx}{M:Store}{E:Ends}(h:pZ X any σ H ι E (fO f env M)):nj X.K H ι E (f env M):=by
 unfold fO at h;cases q:f env M with
 |exc x M1=>rw[q]at h;exact h.elim|bad=>rw[q]at h;exact h.elim|nx e M1=>rw[q]at h;exact h|rt e M1=>rw[q]at h;exact h
 |bk e M1=>rw[q]at h;exact h|ct e M1=>rw[q]at h;exact h
section
variable {X:Cx} {any:Bool} {st:Ydr} {sts:List Ydr} {e c1:Expr} {f:E3} {u w:S3} {pos:aP}
theorem sG(h:CS X.iu st u):uD X any st (fO u):=λpins s σ H D I z=>by obtain⟨ι,M,env,S,E,hf⟩:=z;exact fj (h pins s σ H D (I.wish _) ⟨ι,M,env,S,E,Zqb (X:=X) hf⟩) (λ_ _ q=>q.mL) λ_ _ z=>dR z
theorem Gn(h:mj X.iu sts u):sE X any sts (fO u):=λpins s σ H D I z=>by obtain⟨ι,M,env,S,E,hf⟩:=z;exact fj (h pins s σ H D (I.wish _) ⟨ι,M,env,S,E,Zqb (X:=X) hf⟩) (λ_ _ q=>q.mL) λ_ _ z=>dR z
theorem sH(h:uD X any st u):sE X any [st] u:=QW h
theorem nD(h1:uD X true st u)(h2:sE X true sts w):sE X true (st::sts) (Zw u w):=(QV h1 h2).imp λD σ H ak=>by
 obtain⟨ι,M,env,S,E,h⟩:=ak;refine⟨ι,M,env,S,E,?_⟩;unfold Zw at h;cases q:u env M with
 |nx e M1=>rw[q]at h;exactλσ' H' ι' x S' E'=>⟨ι',M1,e,S',E',pZ.up x (λz=>nomatch z) h⟩|rt e M1=>rw[q]at h;exact h|bk e M1=>rw[q]at h;exact h|ct e M1=>rw[q]at h;exact h
 |exc x M1=>rw[q]at h;exact h|bad=>rw[q]at h;exact h
theorem Gp{x y:List Ydr}(hc:CT X.iu c1 f)(ha:sE X any x u)(hb:sE X any y w):uD X any (.If c1 x y pos) (aK (oV f) u w):=(ZtF (PT.iu hc) ha hb).imp λD σ H ak=>by
 obtain⟨ι,M,env,S,E,h⟩:=ak;refine⟨ι,M,env,S,E,?_⟩;unfold aK oV at h;cases q:f env M with
 | ok d M1=>
  rw[q]at h;cases d with
  |bl k=>
   intro H1 ι1 x1 S1;cases k with
   |true=>rw[if_pos rfl];exact⟨ι1,M1,env,S1,E.mono x1,pZ.up x1 (λ_=>rfl) h⟩|false=>rw[if_neg (by decide)];exact⟨ι1,M1,env,S1,E.mono x1,pZ.up x1 (λ_=>rfl) h⟩
  |_=>exact h.elim
 |exc x M1=>rw[q]at h;exact h.elim|bad=>rw[q]at h;exact h.elim
theorem ZsA(h:Gm X e f):uD X any (.Return (Ya e) pos) (aX f):=(ZpZ h).imp λD σ H ak=>by
 obtain⟨ι,M,env,S,E,h⟩:=ak;refine⟨ι,M,env,S,E,?_⟩;unfold aX at h;cases q:f env M with
 |ok d M1=>rw[q]at h;exact h|exc x M1=>rw[q]at h;exactλa C H' ι' x1 S1 r1 c1 a' C' e1 e2=>by cases e1;cases e2;exact h σ a C H' ι' (λ_=>rfl) x1 S1 r1 c1|bad=>rw[q]at h;exact h.elim
theorem Znn(i:Nat){x:aj}{pos':aP}(hN:X.N.Nodup)(he:Gm X e f)(hi:autoParam (X.N[i]?=Ya x) qA)(hx:Loc X.env.scope x:=by first|exact Or.inl rfl|exact Or.inr rfl)(hs:autoParam (tR e (Ya (.Name x pos')) pos.line X.env=pure false) qA)(hf:X.fn x=true\/X.env.scope.names.lookup x=Ya .local:=by first|exact .inl rfl|exact .inr rfl):uD X any (.Assign [.Name x pos'] e pos) (aJ i f):=(Zrs hN hi hx he hs hf).imp λD σ H ak=>by
 obtain⟨ι,M,env,S,E,h⟩:=ak;refine⟨ι,M,env,S,E,?_⟩;unfold aJ at h;cases q:f env M with
 |ok d M1=>rw[q]at h;exactλv H1 ι1 x1 S1 r1=>h _ H1 ι1 x1 S1 ((E.mono x1).set i r1)|exc x M1=>rw[q]at h;exactλa C H' ι' x1 S1 r1 c1 a' C' e1 e2=>by cases e1;cases e2;exact h σ a C H' ι' (λ_=>rfl) x1 S1 r1 c1|bad=>rw[q]at h;exact h.elim
end
variable{N:List aj}
section
variable {P:aZ} {w:aU} {K:Yb} {mg:aj->Option Yd} {base:au}
theorem ZrF{qual:aj}{scope:Scope}{f:Ys}{cd:Yd}{A:bj}{outer:List cH}{s:Yf}{E:XK}{e:Ys}{H':Hp}(hE:E (.ref C) (Ya e) H'):
  XW (mZ (o6 P w) P w K mg base N qual scope f cd A outer s H E) σ e C H':=λpins s' I x=>by
 obtain⟨dd,he,B,fl,cv,_⟩:=x;show Y8 _ _ (Ik _ (.ref e)) _ _ s';refine ZrO I.ok.frames rfl fl λh' BK sl=>?_;exact⟨e,C,dd,H',B,rfl,I.os,I.bare,cv.un I.base BK.stays sl (Zp7 I),cv.hok I.hok he fl.stays BK.stays BK.BJ,he,BK,cv,hE⟩
theorem Zlg{H':Hp}{ι':List Ys}{M M':Store}{Q:VK}{E:XK}{d:D}{v:V}(S:aq K H ι M)(x:Ext K H ι H' ι')(S':aq K H' ι' M')(r:Rep K H' ι' d v)(h:v9 K H ι Q E (dG M d M')):Q v H':=RV S x S' r (by unfold dG at h ⊢;split at h<;>(rename_i c;first|rw[if_pos c]|rw[if_neg c])<;>exact h)
theorem Zye{x qual:aj}{st:Ydr}{f:Ys}{k:Nat}{body:S3}(F:oK K x qual st f fd)(S:dw N ps (Zh st))(hb:∀(cdv:Yd) (A:bj) (outer:List cH) (s:Yf) (H:Hp) (E:XK),cD k (A.deeper (j7 qual (Zh st) s.heap.objs.size f cdv))->sE (mZ (o6 P w) P w K mg base N qual (Zh st) f cdv A outer s H E) true (bU st) body):
  fM P w K mg base (o6 P w) (k+1) f fd ps (Tp K ps.length (bL ps.length N.length body)):=by
 obtain⟨oc,od,dV,kV,doc,pm,an,cdv,ct,osl,rfl,lk,hcd⟩:=F.ex;refine Ra lk hcd S (λvs H Q E ⟨ι,M,ds,_,r,l,_⟩=>by rw[r.length,l]) λA outer s H vs Q E hr ak=>?_;obtain⟨ι,M,ds,SR,r,l,h⟩:=ak;refine⟨_,hb cdv A outer s H E hr,ι,M,ds.map Ya++Y2 (N.length-ps.length) Yj,SR,?_,?_⟩
 .have e:_L2.start N vs=vs.map Ya++Y2 (N.length-ps.length) Yj:=by unfold _L2.start;rw[r.length,l]
  rw[e];exact bC.start r _
 .unfold bL at h;rw[if_pos l]at h;cases q:body (ds.map Ya++Y2 (N.length-ps.length) Yj) M with
  |nx env' M'=>rw[q]at h;exactλσ' H' ι' x S' E'=>Zlg SR x S' Rep.non h|rt d M'=>rw[q]at h;exactλv H' ι' x S' r'=>Zlg SR x S' r' h|bk _ _=>rw[q]at h;exact h.elim|ct _ _=>rw[q]at h;exact h.elim
  |exc _ _=>rw[q]at h;exactλσ' a C H' ι' _ x S' r' c'=>ZrF (h a C H' ι' x S' r' c')|bad=>rw[q]at h;exact h.elim
end
section
variable {P:aZ} {w:aU} {K:Yb} {mg:aj->Option Yd} {base:au}
theorem ZsD{k n:Nat}{f:Ys}(G:fM P w K mg base (o6 P w) k f fd ps (Tp K n F)):fM P w K mg base jK k f fd ps (rR K n F):=
 ⟨λvs H Q E z=>let⟨ι,M,ds,S,r,l,h⟩:=z;G.len vs H Q E0 ⟨ι,M,ds,S,r,l,h.x⟩,λA outer s H args us vs Q E hr he hb hv z=>let⟨ι,M,ds,S,r,l,h⟩:=z;pC (G.run A outer s H args us vs Q E0 hr he hb hv ⟨ι,M,ds,S,r,l,h.x⟩) λr s' z=>by
  cases r with
  |error e=>obtain⟨_,_,_,_,_,_,_,_,_,_,_,_,_,z⟩:=z;exact z.elim|ok fl=>cases fl<;>exact z⟩
def mF(P:aZ)(w:aU)(K:Yb)(mg:aj->Option Yd)(base:au)(k:Nat)(x:aj)(ps:List aj)(F:F3):Prop:=(∀ds M,ds.length≠ps.length->F ds M= .bad)/\∃f fd,mg x=Ya (.ref f)/\pB K (.ref f)=true/\Binds K fd ps []/\fM P w K mg base (o6 P w) k f fd ps (Tp K ps.length F)
theorem mF.fn{k:Nat}{x:aj}(h:mF P w K mg base k x ps F):aW P w K mg base k x ps F:=let⟨n,f,fd,a,b,c,d⟩:=h;⟨n,f,fd,a,b,c,ZsD d⟩
theorem mF.of{x:aj}{st:Ydr}{k:Nat}{body:S3}(d:bM K mg x st ps)(S:dw N ps (Zh st))(hb:∀(f:Ys) (cdv:Yd) (A:bj) (outer:List cH) (s:Yf) (H:Hp) (E:XK),cD k (A.deeper (j7 x (Zh st) s.heap.objs.size f cdv))->sE (mZ (o6 P w) P w K mg base N x (Zh st) f cdv A outer s H E) true (bU st) body):
  mF P w K mg base (k+1) x ps (bL ps.length N.length body):=by
 obtain⟨f,fd,F,m,bi⟩:=d;exact⟨λds M h=>if_neg h,f,fd,m,F.kp,bi,Zye F S (hb f)⟩
end
section
variable {X:Cx} {o e:Expr} {es:List Expr} {f:E3} {gl:cW} {c m:List Nat} {C:Ys} {fn x:aj} {pos pos' apos p:aP} {k:Nat} {ps:List aj} {F:F3}
theorem Zww{fa:Ys}{sp:Sp}{pins:List (Ys×aD)}{s:Yf}{Q:VK}{us:List Yd}{vs:List V}(G:fM X.prog X.w X.K X.mg X.base (o6 X.prog X.w) k fa fd ps sp)(hr:cD k X.A)(hb:Binds X.K fd ps [])(I:Inv X pins σ H s)(r:Vals vs us)(h:sp vs H Q (EX X σ)):Y8 (ao X.prog X.w) X.A (call (.ref fa) us) (EP X pins σ Q) X.xe s:=by
 have hl:(us++[]).length=ps.length:=by rw[iD,←r.length];exact G.len _ _ _ _ h
 have hb':=hb s us I.bN hl;rw[iD]at hb';refine pF (pC (G.run X.A X.stack s H ⟨us,[]⟩ us vs Q (EX X σ) hr I.env0 hb' r h) λr s' hq=>?_);cases r with
 |error e=>obtain⟨e,C,H',rfl,I',x,hE⟩:=Zxt I hq;exact hE e C rfl rfl pins s' I' x|ok fl=>
  cases fl with
  |ret u=>exact I.after hq|next=>exact dR hq|brk=>exact dR hq|cont=>exact dR hq
theorem Zqk{es:List Expr}{pins:List (Ys×aD)}{s:Yf}{M M1:Store}{env:Zx}{ds:List D}{R:List Yd->Yf->Prop}(ha:CA X.iu es gl)(I:Inv X pins σ H s)(S:aq X.K H ι M)(E:bC X.K H ι env σ)(q:gl env M= .ok ds M1)(h:∀us s1 vs H1 ι1,Inv X pins σ H1 s1->Vals vs us->Ext X.K H ι H1 ι1->aq X.K H1 ι1 M1->Zm X.K H1 ι1 ds vs->R us s1):Y8 (ao X.prog X.w) X.A (Dv (bK pos (Yq es X.env))) R X.xe s:=by
 refine fj (ha pos pins s σ H (λvs H1=>∃ι1,Ext X.K H ι H1 ι1/\aq X.K H1 ι1 M1/\Zm X.K H1 ι1 ds vs) (I.wish _) ⟨ι,M,env,S,E,?_⟩) (λus s1 z=>?_) λ_ _ z=>dR z
 .rw[q];exactλvs H1 ι1 x1 S1 r1=>⟨ι1,x1,S1,r1⟩
 .obtain⟨vs,H1,I1,r,ι1,x1,S1,r1⟩:=z;exact h us s1 vs H1 ι1 I1.mL r x1 S1 r1
theorem Tq(G:mF X.prog X.w X.K X.mg X.base k x ps F)(hr:cD k X.A)(ha:CA X.iu (e::es) gl)(hg:autoParam (Gl X x) qA)(hdb:autoParam ((x==("__debug__":aj))=false) qB)(he:autoParam (Yq (e::es) X.env=(false,aF e X.env)::Yq es X.env) qA)(hpl:autoParam ((bK pos (Yq es X.env)).any (·.1)=false) qA):Gm X (.Call (.Name x p) (e::es) [] pos) (bf F (pQ gl)):=by
 obtain⟨hn,fa,fd,hm,kp,bi,ok⟩:=G;intro pins s σ H Q I h;obtain⟨ι,M,env,S,E,h⟩:=h;refine wX (xV I hg hm ?_ hdb);unfold bf pQ at h;cases q:gl env M with
 |exc _ _=>rw[q]at h;exact h.elim|bad=>rw[q]at h;exact h.elim|ok ds M1=>
  rw[q]at h;have h:v9 X.K H ι Q (EX X σ) (F ds M1):=h;have hl:ds.length=ps.length:=by refine Jo λz=>?_;rw[hn ds M1 z]at h;exact h.elim
  exact Nr (h₀:=X.base) I.ok.mod.xU kp (Zqk ha I S E q λus s1 vs H1 ι1 I1 r x1 S1 r1=>⟨I1.bN,Zww ok hr bi I1 r ⟨ι1,M1,ds,S1,r1,hl,h.up x1⟩⟩) he hpl
end
noncomputable abbrev inX(X:Cx)(A':bj)(E':Yd->Yf->Prop):Cx:={X with A:=A',calm:=false,xe:=E'}
noncomputable abbrev KC(X:Cx)(KD:List (Ys×aD))(E':Yd->Yf->Prop):Cx:={X with pn:=KD,xe:=E'}
variable{uX:List (Ys×aD)}{E':Yd->Yf->Prop}
section
variable {X:Cx} {pins:List (Ys×aD)} {σ:St} {H:Hp} {s:Yf}
theorem Zog(I:Inv X pins σ H s)(A':bj)(E':Yd->Yf->Prop)(hf:A'.frames=X.A.frames):Inv (inX X A' E') pins σ H s:=
 let ok:=I.ok
 ⟨⟨ok.mod,ok.kind,ok.glob,ok.blt,ok.above,ok.inj,ok.has,ok.cab,(λz=>nomatch z),hf.trans ok.frames,ok.Ab,ok.Ac,ok.bs,ok.mX,ok.wQ,ok.uY,ok.jE,ok.pM⟩,I.os,I.bare,I.base,I.loc,I.cell,I.free,I.jC,I.pin,I.hok,I.len⟩
theorem ZpJ{σ':St}{H':Hp}{s':Yf}{A':bj}(I:Inv X pins σ H s)(J:Inv (inX X A' E') uX σ' H' s'):Inv X uX σ' H' s':=⟨I.ok,J.os,J.bare,J.base,J.loc,J.cell,J.free,J.jC,J.pin,J.hok,J.len⟩
theorem ZsY(I:Inv X pins σ H s)(E':Yd->Yf->Prop):Inv (KC X (X.pn++pins) E') [] σ H s:=
 let ok:=I.ok
 ⟨⟨ok.mod,ok.kind,ok.glob,ok.blt,ok.above,ok.inj,ok.has,ok.cab,ok.hd,ok.frames,ok.Ab,ok.Ac,ok.bs,ok.mX,ok.wQ,ok.uY,ok.jE,ok.pM⟩,I.os,I.bare,I.base,I.loc,I.cell,I.free,I.jC,λp hp=>I.pin p (by simpa using hp),I.hok,I.len⟩
theorem Gq{σ':St}{H':Hp}{s':Yf}(I:Inv X pins σ H s)(J:Inv (KC X (X.pn++pins) E') uX σ' H' s'):Inv X pins σ' H' s':=⟨I.ok,J.os,J.bare,J.base,J.loc,J.cell,J.free,J.jC,λp hp=>J.pin p (n_ _ hp),J.hok,J.len⟩
theorem Zr0{D:Ends}{f:Flow}{s':Yf}(I:Inv X pins σ H s)(h:SP (KC X (X.pn++pins) E') uX D f s'):SP X pins D f s':=by
 cases f with
 |next=>obtain⟨σ',H',J,q⟩:=h;exact⟨σ',H',Gq I J,q⟩|brk=>obtain⟨σ',H',J,q⟩:=h;exact⟨σ',H',Gq I J,q⟩|cont=>obtain⟨σ',H',J,q⟩:=h;exact⟨σ',H',Gq I J,q⟩|ret u=>obtain⟨v,σ',H',J,r,q⟩:=h;exact⟨v,σ',H',Gq I J,r,q⟩
theorem ZrH{B h':au}{e:Ys}{dd:Option Ys}(I:Inv X pins σ H s)(he:H e=Ya (uq e C dd))(s1:B.StaysIn s.heap)(cv:yG B X.fs X.ex X.H₀ X.s₀.heap H e)(hp:∀p∈X.pn++pins,B.get? p.1=Ya p.2)(s2:B.StaysIn h')(sl:s.heap.UpToSlots h')(xo:yr e C dd h'):Inv X pins σ H {s with heap:=h'}:=by
 have cellK:∀c v,s.heap.IsCell c v->h'.IsCell c v:=λc v z=>by
  obtain⟨o,ho,hd⟩:=z;obtain⟨s3,e3⟩:=sl c o ho λvs q=>by rw[hd]at q;cases q
  exact⟨_,e3,hd⟩
 refine⟨I.ok,I.os,I.bare,cv.un I.base s2 sl (Zp7 I),?_,λx c z=>?_,I.free,I.jC,λp hq=>⟨s2 _ _ (hp p hq),(I.pin p hq).2⟩,cv.hok I.hok he s1 s2 xo,I.len⟩
 .obtain⟨m,hn,hl⟩:=I.loc;refine⟨m,sl.ns hn,λi x v e1 e2 e3=>?_⟩;obtain⟨u,r,l⟩:=hl i x v e1 e2 e3;refine⟨u,r,?_⟩;rcases l with l|⟨k,c,e,z⟩
  .exact .inl l
  .exact .inr ⟨k,c,e,cellK _ _ z⟩
 .obtain⟨v,q⟩:=I.cell x c z;exact⟨v,cellK _ _ q⟩
theorem Zve{M:Model}{A:bj}{E:Yd->Yf->Prop}{Q:Unit->Yf->Prop}{j:Nat}{n:aj}{pos:aP}(I:Inv X pins σ H s)(hN:X.N.Nodup)(hj:X.N[j]?=Ya n)(hl:X.env.scope.names.lookup n=Ya .local)(h:∀s',Inv X pins (σ.set j Yj) H s'->Q () s'):Y8 M A (do bindName X.env n .none;W5 X.env n pos) Q E s:=by
 have hl':X.env.kindOf n=Ya .local:=hl;have hp:(X.env.scope.kind== .class|| (X.env.scope.kind== .module&&X.env.locals !=X.env.globals))=false:=by rw[I.ok.kind];rfl
 obtain⟨m,hn,hv⟩:=id I.loc;refine Yc (wpAny_bindName (W0 hl' hn (λh₁ hn₁ hs₁=>?_) hp));unfold W5 unbindName deleteName;refine wpAny_onRaise (Yc (Ds (Yc ?_)));simp only[hp,hl'];rw[if_neg (by decide)];refine Yc (wpAny_nsDel_keeps hn₁ λh₂ v hn₂ hs₂=>?_);simp only[Wu,if_true,if_false,DX,Bool.not_true];refine Yn (Ds (h _ ?_));have sb:=hs₁.trans hs₂;have ne:∀b o,X.s₀.heap.get? b=Ya o->b≠X.env.locals:=λb o q=>dM (Y6 (Y0 q) I.ok.above);have nt:∀b,H b≠Yj->b≠X.env.locals:=λb q z=>q (by rw[z];exact I.free);have cellK:∀x c,X.env.cells.lookup x=Ya c->∀v,s.heap.IsCell c v->h₂.IsCell c v:=λx c z v q=>by obtain⟨o,ho,hd⟩:=q;exact⟨o,(sb.2 c (I.vN x c z)).trans ho,hd⟩
 refine⟨I.ok,I.os,I.bare,⟨λb o q n hb hx=>?_,λb o q n hb hx=>?_,I.base.free,λb o q hx=>?_,I.base.tups,I.base.jD,I.base.jR⟩,⟨_,hn₂,λi x v' e1 e2 e3=>?_⟩,λx c z=>?_,I.free,I.jC,λp hp=>?_,λb u q=>?_,by rw[DG];exact I.len⟩
 .exact(sb.2 b (ne b o q)).trans (I.base.keep b o q n hb hx)
 .obtain⟨sl,z⟩:=I.base.slot b o q n hb hx;exact⟨sl,(sb.2 b (ne b o q)).trans z⟩
 .obtain⟨o',z⟩:=I.base.there b o q hx;exact⟨o',(sb.2 b (ne b o q)).trans z⟩
 .have hij:i≠j:=λz=>by
   subst z;rw[Xn]at e2;cases q:σ[i]? with
   |none=>rw[q]at e2;simp at e2|some _=>rw[q]at e2;simp at e2
  rw[Yz (bT hij)]at e2;obtain⟨u,r,l⟩:=hv i x v' e1 e2 e3;have hxn:x≠n:=λz=>hij (QL hN e1 (by rw[z];exact hj));refine⟨u,r,?_⟩;rcases l with⟨k,l⟩|⟨k,c,e,z⟩
  .refine .inl ⟨k,?_⟩;show(if x=n then _ else _)=_;rw[if_neg hxn];show(if x=n then _ else _)=_;rw[if_neg hxn];exact l
  .exact .inr ⟨k,c,e,cellK x c e _ z⟩
 .obtain⟨v,q⟩:=I.cell x c z;exact⟨v,cellK x c z v q⟩
 .obtain⟨e,n,ne',r⟩:=I.pin p hp;exact⟨(sb.2 _ ne').trans e,n,ne',r⟩
 .refine(I.hok b u q).stay (λc v hc z=>(sb.2 c (nt c ?_)).trans z) (λ_ z=>z) λ_ _ z=>z;rcases hc with rfl|hc
  .rw[q];simp
  .rw[hc];simp
end
theorem bC.unset{K:Yb}{env:Zx}(r:bC K H ι env σ)(j:Nat):bC K H ι (env.set j Yj) (σ.set j Yj):=by
 refine⟨by simp[r.1],λi d h=>?_⟩;by_cases hij:i=j
 .subst hij;rw[Xn]at h;cases q:env[i]? with
  |none=>rw[q]at h;simp at h|some _=>rw[q]at h;simp at h
 .rw[Yz (bT hij)]at h;obtain⟨w,q,z⟩:=r.2 i d h;exact⟨w,by rw[Yz (bT hij)];exact q,z⟩
theorem ZuE{X:Cx}{x n:aj}{np pos pos2:aP}{body suite:List Ydr}{b0:Ydr}{cs:List (List Nat)}(j:Nat){b h:S3}{CE:Ys}(hN:X.N.Nodup)(hm:X.mg x=Ya (.ref CE))(hsub:∀c C,cs.contains c=true->ClsAt X.K c C->NZ X.K (.ref C) (.ref CE)=Ya true)(hb:∀KD E',sE (KC X KD E') false body b)(hs:∀A' E',mj (inX X A' E') (b0::suite) h)(hst:autoParam (X.stack=X.env::X.outer) qA)(hfr:autoParam (X.env.frame=Ya X.env.locals) qA)(hj:autoParam (X.N[j]?=Ya n) qA)(hl:autoParam (X.env.scope.names.lookup n=Ya .local) qA)(hg:autoParam (Gl X x) qA)(hdb:autoParam ((x==("__debug__":aj))=false) qB):CS X (.Try body [.ExceptHandler (Ya (.Name x np)) (Ya n) (b0::suite) pos] [] [] pos2) (yq cs j b h):=by
 intro pins s σ H D I z;obtain⟨ι,M,env,S,E,hf⟩:=z;refine wpAny_Try_except (fj (hb (X.pn++pins) _ [] s σ H D (ZsY I _) ⟨ι,M,env,S,E,?_⟩) (λf s1 q=>?_) (λ_ _ z=>z))
 rotate_left
 .have q:=Zr0 I q;cases f with
  |next=>obtain⟨σ',H',J,q⟩:=q;exact Dl ⟨σ',H',J,q⟩|brk=>exact q|cont=>exact q|ret u=>exact q
 unfold yq at hf;cases q:b env M with
 |nx e M1=>rw[q]at hf;exact hf|rt e M1=>rw[q]at hf;exact hf|bk e M1=>rw[q]at hf;exact hf|ct e M1=>rw[q]at hf;exact hf
 |bad=>rw[q]at hf;exact hf|exc x1 M1=>
  rw[q]at hf;dsimp only at hf;have hc:cs.contains x1.cls=true:=Jo λz=>by rw[if_neg z]at hf;exact hf
  rw[if_pos hc]at hf;intro σ' e C H' ι' hσ xt S1 r1 c1 uX s' J KH;obtain rfl:=hσ rfl;obtain⟨dd,he,B,fl,cv,hpn⟩:=KH;have I1:Inv X pins σ' H' s':=Gq I J;have fl0:sy B (X.env::X.outer) e C dd s'.heap:=by rw[←hst];exact fl
  have AcN:X.A.frames=Ya (X.env::X.outer):=by rw[←hst];exact I1.ok.frames
  show Y8 (ao X.prog X.w) X.A (Dt (.ref e) X.env) _ _ s';refine Zqq AcN hfr fl0 λh₄ a0 held Tr=>?_;refine Ti held λh₅ Dh Tt=>?_;have I5:Inv X pins σ' H' {s' with heap:=h₅}:=ZrH I1 he fl.stays cv hpn Dh.1 (Tr.trans Tt) Dh.BJ;have QX:=Zog I5 (X.A.mark (Ya (.ref e))) (λ_ _=>False) rfl;refine wpAny_handleBy_cons (codeAny_handlers_test (xV QX hg hm ?_ hdb)) (by intro q;cases q);have LT:PySem.W.Looks (ao X.prog X.w) h₅ (typeOf (.ref e)) (.ref C):=by obtain⟨o,vs,a,b,_⟩:=Dh.BJ;exact b▸(PySem.W.Looks.ld a).andThen .now
  refine PySem.W.exm_one (K:=X.K) (cls:=.ref C) I5.bN LT (hsub _ _ hc c1) _ _ _ _ (λ_ _ q=>q) ?_;refine codeAny_handlers_suite_as ?_;refine Ti Dh λh₆ V9 Tu=>?_;have I6:Inv X pins σ' H' {s' with heap:=h₆}:=ZrH (s:={s' with heap:=h₅}) I5 he Dh.1 cv hpn V9.1 Tu V9.BJ;have I6':=Zog I6 (X.A.mark (Ya (.ref e))) (λ_ _=>False) rfl;refine QM (X:=inX X (X.A.mark (Ya (.ref e))) λ_ _=>False) (v:=.ref e) I6' hN hj (.inl hl) rfl (λs7 I7=>?_) (.inr hl);refine fj (hs (X.A.mark (Ya (.ref e))) (λ_ _=>False) pins s7 (σ'.set j (Ya (.ref e))) H' {nx:=λσ2 H2=>D.nx (σ2.set j Yj) H2,rt:=λ_ _=>False} I7 ⟨ι',M1,env.set j (Ya x1.arg),S1,(E.mono xt).set j r1,?_⟩) (λf s8 q=>?_) (λ_ _ z=>dR z)
  .cases qh:h (env.set j (Ya x1.arg)) M1 with
   |nx e' M2=>rw[qh]at hf;exactλσ2 H2 ι2 x2 S2 E2=>hf _ H2 ι2 (xt.trans x2) S2 (E2.unset j)|rt _ _=>rw[qh]at hf;exact hf.elim|bk _ _=>rw[qh]at hf;exact hf.elim|ct _ _=>rw[qh]at hf;exact hf.elim
   |exc _ _=>rw[qh]at hf;exact hf.elim|bad=>rw[qh]at hf;exact hf.elim
  .cases f with
   |next=>obtain⟨σ2,H2,I8,q⟩:=q;exact Zve (ZpJ I I8) hN hj hl λs9 I9=>⟨σ2.set j Yj,H2,I9,q⟩|brk=>obtain⟨_,_,_,q⟩:=q;exact q.elim|cont=>obtain⟨_,_,_,q⟩:=q;exact q.elim
   |ret u=>obtain⟨_,_,_,_,_,q⟩:=q;exact q.elim
end _L3
namespace PySem.W
open PySem PySem.Spec PySem.Calls PyProof.Rows Builtin Builtin.ObjectAttr Builtin.Getset_descriptor
section
variable {prog:aZ} {w:aU} {K:Frag} {x D:Ys}
def yH(x D:Ys)(h:au):Prop:=∃o,h.get? x=Ya o/\o.cls= .ref D
theorem yH.ty{h:au}(p:yH x D h)(M:Model):Looks M h (typeOf (.ref x)) (.ref D):=by obtain⟨o,a,b⟩:=p;exact b▸(Looks.ld a).andThen .now
theorem AcO{C CE:Ys}{cd:ClassData}(cl:clsIn K CE=Ya cd)(ty:typeIn K (.ref CE)=Ya (.type "type"))(bs:subIn K (.ref CE) (.type "BaseException")=Ya true)(sb:subIn K (.ref C) (.ref CE)=Ya true):exmOne K (.ref C) (.ref CE)=Ya true:=by unfold exmOne;rw[bs,if_pos (by rfl)];show(if((clsIn K CE).isSome&&typeIn K (.ref CE)==Ya (.type "type"))=true then subIn K (.ref C) (.ref CE)else Yj)=Ya true;rw[cl,ty,if_pos (by rfl)];exact sb
end
end PySem.W
namespace _L3
open PySem PySem.Spec PyProof.Rows _L2
structure Zux(K:Yb)(C:Ys):Prop where
 ga:Y7 K (.ref C) "__getattribute__" =Ya (Ya (.builtin "BaseException.__getattribute__"))
 gh:Y7 K (.ref C) "__getattr__" =Ya Yj
 be:tL K C (.type "BaseException")=Ya true
 cl:(tM K C).isSome=true
 fa:Y7 K (.ref C) "__class__" =Ya (Ya (.builtin "object.__class__"))
 sp:zp K (.builtin "object.__class__") "__get__" =Ya (Ya (.builtin "getset_descriptor.__get__"))
 tk:Nz K (.builtin "object.__class__")=Ya true
 mo:tL K C (.type "object")=Ya true
noncomputable def KJ(es:Array DictEntry):Bool:=es.toList.all λe=>match e.key with
 | .str _ _=>true|_=>false
theorem Zsd{es:Array DictEntry}(h:KJ es=true):StrKeys es:=λe he=>by
 have:=gO.mp h e (ZM.mpr he);split at this
 .rename_i n t q;exact⟨n,t,q⟩
 .cases this
section
variable {K:Yb} {h:au} {a:Ys} {oc:Yd} {od:Option Ys} {es:Array DictEntry} {ep:Nat} {sl:Array (Option Yd)}
theorem Ztz(X:K.In h)(l:K.lookup a=Ya ⟨oc,od,.dict es ep,sl⟩)(sk:KJ es=true):h.Ns a (nsFind es):=⟨_,es,ep,X _ _ l,rfl,Zsd sk,λ_=>rfl⟩
theorem Zot{c:List Nat}{C C':Ys}(x:ClsAt K c C)(y:ClsAt K c C'):C'=C:=by have:=y.symm.trans x;cases this;rfl
theorem Zs5{P:Ys->Prop}:∀c C,([]:List (List Nat)).contains c=true->ClsAt K c C->P C:=λc C z=>by cases z
theorem ZrN{P:Ys->Prop}{k:List Nat}{ks:List (List Nat)}{C1:Ys}(x:ClsAt K k C1)(p:P C1)(t:∀c C,ks.contains c=true->ClsAt K c C->P C):∀c C,(k::ks).contains c=true->ClsAt K c C->P C:=λc C z gG=>by
 rw[O1,Py]at z;rcases z with z|z
 .rw[beq_iff_eq.mp z]at gG;rw[Zot x gG];exact p
 .exact t c C z gG
end
section
variable {X:Cx} {tg:Expr} {pos:aP}
theorem ZsU{iter:Expr}{body:List Ydr}{i:I3}{g:G3}{u:S3}(hp:Oq (ao X.prog X.w) X.A X.env X.xe)(hc:X.calm=true)(hi:CI X tg iter i)(hg:CG X tg g)(hb:sE X true body u)(hs:∀x,zr iter X.env x=pure x:=by intro _;rfl):
  uD X true (.For tg iter body [] pos) (FP i g u):=(ZqB hp hc hi hg hb hs).imp λD σ H ak=>by
 obtain⟨ι,M,env,S,E,h⟩:=ak;unfold FP at h;cases q:i env M with
 |exc x M1=>rw[q]at h;exact h.elim|bad=>rw[q]at h;exact h.elim|ok it M1=>
  rw[q]at h;refine⟨ι,M,env,S,E,?_⟩;rw[q];intro J H1 ι1 x1 S1 ok;refine⟨λi m σ2 H2=>m=it.items.length-i/\i<=it.items.length/\∃ι2 M2 iQ,Ext X.K H1 ι1 H2 ι2/\aq X.K H2 ι2 M2/\bC X.K H2 ι2 iQ σ2/\pZ X true σ2 H2 ι2 D (cX it g u (it.items.drop i) iQ M2),
   ⟨_,rfl,d8 _,ι1,M1,env,Ext.refl,S1,E.mono x1,pZ.up x1 (λz=>nomatch z) h⟩,?_⟩
  rintro i m σ2 H2 ⟨rfl,hi,ι2,M2,iQ,x2,S2,E2,h2⟩;by_cases hlt:i<it.items.length
  .have hd:it.items[i]?=Ya it.items[i]:=by simp[hlt]
   rw[zJ hlt]at h2
   first|rw[uh]at h2|rw[ug]at h2
   by_cases lk:locked it M2=true
   .rw[if_pos lk]at h2;obtain⟨go,yl⟩:=(ok i H2 ι2 M2 x2 S2 lk).1 _ hd;cases eg:g it.items[i] iQ with
    |none=>rw[eg]at h2;exact h2.elim|some wR=>
     rw[eg]at h2;refine .inr ⟨go,λσ' H'=>∃ι3 M3 nW,Ext X.K H2 ι2 H' ι3/\aq X.K H' ι3 M3/\bC X.K H' ι3 nW σ'/\pZ X true σ' H' ι3 D (cX it g u (it.items.drop (i+1)) nW M3),
      λσ' H' ⟨ι3,M3,nW,x3,S3,E3,h3⟩=>⟨it.items.length-(i+1),by omega,rfl,hlt,ι3,M3,nW,x2.trans x3,S3,E3,h3⟩,λx H' hy=>?_⟩
     obtain⟨rfl,rx⟩:=yl x H' hy;refine⟨ι2,M2,iQ,_,wR,S2,E2,rx,eg,λσ' E'=>⟨ι2,M2,wR,S2,E',?_⟩⟩;cases qu:u wR M2 with
     |nx e' M'=>simp only[qu]at h2;exactλσ' H' ι' x' S' E'=>⟨ι',M',e',x',S',E',h2.up x' (λz=>nomatch z)⟩|ct e' M'=>simp only[qu]at h2;exactλσ' H' ι' x' S' E'=>⟨ι',M',e',x',S',E',h2.up x' (λz=>nomatch z)⟩|bk e' M'=>simp only[qu]at h2;exact h2|rt d M'=>simp only[qu]at h2;exact h2
     |exc x' M'=>simp only[qu]at h2;exactλσ'' a C H' ι' _=>h2 σ'' a C H' ι' (λz=>nomatch z)|bad=>simp only[qu]at h2;exact h2.elim
   .rw[if_neg lk]at h2;exact h2.elim
  .have e0:i=it.items.length:=gn hi (iW hlt);subst e0;rw[Iv]at h2
   first|rw[uh]at h2|rw[ug]at h2
   by_cases lk:locked it M2=true
   .rw[if_pos lk]at h2;exact .inl ⟨(ok _ H2 ι2 M2 x2 S2 lk).2 rfl,h2 σ2 H2 ι2 Ext.refl S2 E2⟩
   .rw[if_neg lk]at h2;exact h2.elim
end
noncomputable def BL(K:Yb)(d:List aj)(v:Yd):Bool:=match v with
 | .ref a=>(match K.lookup a with
  |some o=>o.cls== .type "tuple" &&o.dict.isNone&&(match o.data with| .seq vs _=>decide (vs.size<=1000)&&KTD.strsLook vs.toList d|_=>false)
  |none=>false)
 |_=>false
noncomputable def Zxx(t:J_):List (aj×List aj):=t.map λp=>(⟨p.1.toArray⟩,p.2.map λy=>⟨y.toArray⟩)
def Zxc(K:Yb)(d:List aj)(v:Yd):Prop:=∃a,v= .ref a/\∀H,cM K H a (d.map V.str)
theorem Zos:∀{vs:List Yd} {d:List aj},StrsAre vs d->Vals (d.map V.str) vs:=by
 intro vs d h
 induction h with
 |nil=>exact .nil|cons _ _ _ ih=>exact .cons ⟨_,rfl⟩ ih
theorem ZnM{K:Yb}{d:List aj}{v:Yd}(h:BL K d v=true):Zxc K d v:=by
 unfold BL at h;split at h
 .rename_i a;refine⟨a,rfl,λH=>?_⟩;split at h
  .rename_i o ho;simp only[Y5]at h;obtain⟨⟨h1,h2⟩,h3⟩:=h;split at h3
   .rename_i vs n hd;simp only[Y5,decide_eq_true_eq]at h3;exact .inr ⟨o,vs,n,ho,⟨beq_iff_eq.mp h1,by simpa using h2⟩,hd,Yp h3.1 (by rw[q8];decide),Zos (KTD.strs_of_look h3.2)⟩
   .cases h3
  .cases h
 .cases h
abbrev Zwv(K:Yb)(a:Ys)(t:J_):Prop:=KTD.tabLook (BL K) (λb=>K.lookup b) a (Zxx t)=true
theorem Zwv.at{K:Yb}{a:Ys}{t:J_}{h:au}(T:Zwv K a t)(X:K.In h):pK (Zxc K) h a (Zxx t):=YX (λ_ _ q=>ZnM q) X T
theorem Zls{K:Yb}{H:Hp}{ι:List Ys}:∀ds:List (List Nat),Zm K H ι (ds.map D.str) ((ds.map λy=>(⟨y.toArray⟩:aj)).map V.str)
 |[]=>Zm.nil|_::ds=>Zm.cons Rep.str (Zls ds)
section
variable {prog:aZ} {w:aU} {A:bj} {E:Yd->Yf->Prop} {s:Yf} {a:Ys} {K:Yb} {t:J_} {x:List Nat} {tk:eG}
theorem sI{δ:Type}{R:δ->Yd->Prop}{T:List (aj×δ)}(h:pK R s.heap a T):s.TypeIs (.ref a) "dict":=let⟨_,o,_,_,ho,hc,_⟩:=h;⟨o,ho,hc.1⟩
theorem Tv{δ:Type}{R:δ->Yd->Prop}{T:List (aj×δ)}{k:aj}{Q:Option Yd->Yf->Prop}(h:pK R s.heap a T)(hs:∀d v,mU k T=Ya d->R d v->Q (Ya v) {s with toks:=s.toks+1})(hn:mU k T=Yj->Q Yj {s with toks:=s.toks+1}):Y8 (ao prog w) A (vm a (.str k tk)) Q E s:=by
 obtain⟨_,o,es,ep,ho,hc,hd,hr⟩:=h;unfold vm
 try with_reducible refine h_ ?_
 refine Yc (Xa (Yc (KTD.kt_dictFind_strs (s:={s with toks:=s.toks+1}) ho hd (by obtain⟨es⟩:=es;simpa using hr.exact) ?_)));have key:Q (findBy (λq v=>v.isStr q) es k) {s with toks:=s.toks+1}:=by
  rw[show findBy (λq v=>v.isStr q) es k=(es.toList.find? λz=>z.key.isStr k).map (·.val)by obtain⟨es⟩:=es;simp[findBy]];cases e:mU k T with
  |none=>rw[hr.find_none e];exact hn e|some d=>obtain⟨v,hv,r⟩:=hr.find_some e;rw[hv];exact hs d v e r
 rw[findBy_of_findIdx?]at key;cases e:es.findIdx? λz=>z.key.isStr k with
 |none=>rw[e]at key;exact Yn key|some j=>rw[e]at key;exact Yc (W9 (s:={s with toks:=s.toks+1}) ho hd (Yn key))
end
open AutoSeq1 (wpAny_loadPart')
set_option maxRecDepth 100000
theorem Zk1{prog:aZ}{w:aU}{A:bj}{it:Ys}{fp:List Ys}{n:Nat}{P:Nat->Yd->Prop}{St:Nat->au->Prop}(D:Draws prog w A it fp n P St):
  Draws prog w A it fp (n+1) (λi v=>P (i-1) v) (λi h=>∃j,i=j+1/\St j h)where
 live:=λi h ⟨j,_,st⟩=>D.live j h st
 frame:=λi h h' ⟨j,e,st⟩ hk=>⟨j,e,D.frame j h h' st hk⟩
 item:=λi s Q E hi st hQ=>by obtain⟨j,rfl,st⟩:=st;exact D.item j s Q E (Nat.lt_of_succ_lt_succ hi) st λx h' tk hp st' hs=>hQ x h' tk hp ⟨j+1,rfl,st'⟩ hs
 done:=λs Q E st hE=>by obtain⟨j,e,st⟩:=st;cases Qy e;exact D.done s Q E st hE
theorem ZlS(l:Ys)(items:Array Yd)(n:Nat)(dct:Option Ys)(sl:Array (Option Yd))(t:eG):
  Meets (Builtin.«enumerate.__new__» ⟨[.type "enumerate",.ref l],[("start",.int 1 t)]⟩) (λ_ R s=>s.heap.get? l=Ya {cls:=.type "list",dict:=dct,data:=.seq items n,slots:=sl}/\
   R (.ok (.ret (.ref (s.heap.push {cls:=.type "list_iterator",data:=.fields #[.ref l,.int 0 0]}).objs.size)))
    {s with heap:=(s.heap.push {cls:=.type "list_iterator",data:=.fields #[.ref l,.int 0 0]}).push {cls:=.type "enumerate",data:=.fields #[.none,.bool false,.ref s.heap.objs.size,jV 1,.none,.none]}}):=
 .of_wp λprog w A R s h=>by
  obtain⟨hp,g,d,tk,os⟩:=s;obtain⟨hl,h⟩:=h;have hsub:=sub_enumerate;have hL:Heap.IsList (Shared.heap ⟨hp,g,d,tk,os⟩) l items:=⟨_,hl,rfl,n,rfl⟩
  wp_walk using u9 hl
  refine Xg λst=>Yn ?_;split
  .rename_i c _ _ _ _ _;cases(c==Value.type "enumerate")
   .wp_walk using u9 hl,wY hL
    exact⟨_,rfl,h⟩
   .wp_walk using u9 hl,wY hL
    exact⟨_,rfl,h⟩
  .wp_walk using u9 hl,wY hL
   exact⟨_,rfl,h⟩
theorem Zmg(a b:Yd):checkTypeCall "enumerate" ⟨[a],[("start",b)]⟩=pure ():=by kernel_rfl
theorem ZoG(a b:Yd):Dk "enumerate.__new__" ⟨[.type "enumerate",a],[("start",b)]⟩=pure ():=by kernel_rfl
theorem Zm6(o a b:Yd):argsOk "object.__init__" ⟨[o,a],[("start",b)]⟩:=by unfold argsOk;rw[signature?_of (id:="object.__init__") (n:=['_','_','t','i','n','i','_','_']) (o:=['t','c','e','j','b','o']) (by kernel_rfl) F.owner_object];kernel_rfl
theorem ZlA{self a b:Yd}:Meets (Builtin.«object.__init__» ⟨[self,a],[("start",b)]⟩) (λ_ R s=>s.TypeIs self "enumerate" /\R (.ok (.ret .none)) s):=by
 have hl:=F.called_enumerate.init.lookup;have hm:=F.called_enumerate.made;refine Meets.of_wp λprog w A R s hs=>?_;obtain⟨hT,hq⟩:=hs
 repeat(any_goals(first|assumption|wp_step))
 exact⟨_,rfl,hq⟩
theorem ZmS{prog:aZ}{w:aU}{A:bj}{E:Yd->Yf->Prop}{s:Yf}{l:Ys}{items:Array Yd}{t:eG}{Q:Yd->Yf->Prop}(hL:s.heap.IsList l items)(h:∀h',xq h' (s.heap.objs.size+1) s.heap.objs.size 1 .none->h'.IsListIter s.heap.objs.size l 0->(∀b o,s.heap.get? b=Ya o->h'.get? b=Ya o)->Q (.ref (s.heap.objs.size+1)) {s with heap:=h'}):
  Y8 (ao prog w) A (call (.type "enumerate") [.ref l] [("start",.int 1 t)]) Q E s:=by
 obtain⟨⟨c,dct,dt,sl⟩,hl,hc,n,hd⟩:=hL;replace hc:c= .type "list":=hc;replace hd:dt= .seq items n:=hd;subst hc hd;have ft:=Z2;obtain⟨c,tl,hmro⟩:=ft.mro;have hmade:=ft.made;have hsub:=ft.sub;have hct:=Zmg (.ref l) (.int 1 t);have hcn:=ZoG (.ref l) (.int 1 t);refine pF (N_ (show Y8 _ _ (callAny (.type "enumerate") _) _ _ _ from ?_));refine Yn ⟨Js _ (by decide +kernel),w5 F.entry_type_call (?_)⟩;rw[Z6 (W3 _ _ _) (units_type_call_type _ _ _)];have h1:=ft.notType;have h2:=ft.canCreate
 repeat(any_goals(first|assumption|wp_step))
 have hz:(s.heap.push {cls:=.type "list_iterator",data:=.fields #[.ref l,.int 0 0]}).objs.size=s.heap.objs.size+1:=vG ..;have g0:=ZlS l items n dct sl t prog w A.in1 (wants (λobj s₁=>s₁.TypeIs obj "enumerate" /\Q obj s₁) E) s ⟨hl,by
  show _/\_;rw[hz];have he:xq ((s.heap.push {cls:=.type "list_iterator",data:=.fields #[.ref l,.int 0 0]}).push {cls:=.type "enumerate",data:=.fields #[.none,.bool false,.ref s.heap.objs.size,jV 1,.none,.none]}) (s.heap.objs.size+1) s.heap.objs.size 1 .none:=by have q:=Y1 (s.heap.push {cls:=.type "list_iterator",data:=.fields #[.ref l,.int 0 0]}) (o:={cls:=.type "enumerate",data:=.fields #[.none,.bool false,.ref s.heap.objs.size,jV 1,.none,.none]}) rfl;rw[hz]at q;exact q
  exact⟨⟨_,he,rfl⟩,h _ he ⟨_,Yi _ (Y1 _ rfl),rfl,rfl⟩ λb o x=>Yi _ (Yi _ x)⟩⟩
 refine pC (wW ft.plain Z1 (H_ hcn g0)) λr s₁ hr=>?_;cases r with
 |error e=>exact hr|ok fl=>
  cases fl with
  | ret obj=>
   obtain⟨hT,hq⟩:=hr;have hli:=ft.init.lookup;have hbi:=ft.init.bind obj
   repeat(any_goals(first|assumption|wp_step))
   refine pC (wW ft.init.plain F.entry_object_init (ft.init.check _ _ _ _ _ _ _ _ hT (Zm6 obj _ _) (ZlA prog w A.in1 (wants (λr s₂=>r= .none/\Q obj s₂) E) s₁ ⟨hT,rfl,hq⟩))) λr₂ s₂ Tw=>?_;cases r₂ with
   |error e=>exact Tw|ok fl₂=>
    cases fl₂ with
    |ret r=>
     obtain⟨rfl,hq⟩:=Tw
     repeat(any_goals(first|assumption|wp_step))
    |_=>exact Tw.elim
  |_=>exact hr.elim
noncomputable def ZwT(S:Hp->List V->Prop):It:=⟨λi H=>∃xs x,S H xs/\xs[i]?=Ya x,λi H x H'=>∃A a,x= .ref A/\H A=Yj/\H'=upd H A (.tup [.int ((i+1:Nat):Int),a])/\∀xs,S H xs->xs[i]?=Ya a,
 λi H=>∃xs,S H xs/\xs.length<=i⟩
theorem Zl7{P:aZ}{w:aU}{K:Yb}{es:List Expr}{k:Nat}{pos:aP}(a e it:Ys)(hne:e≠it):
  Turn P w K (.Tuple es k pos) (ZwT λH xs=>bD K H a xs) [e,it] e (λi h=>(∃old,xq h e it ((i+1:Nat):Int) old)/\h.IsListIter it a i)where
 mem:=by simp
 obj:=λi h st b hb=>by
  obtain⟨⟨old,he⟩,o,ho,c,d⟩:=st;simp only[Ym,ig,or_false]at hb;rcases hb with rfl|rfl
  .exact⟨_,he,λv z=>by cases z⟩
  .exact⟨o,ho,λv z=>by rw[d]at z;cases z⟩
 keep:=λi h h' st k=>by obtain⟨⟨old,he⟩,hit⟩:=st;exact⟨⟨old,k e (by simp) _ he⟩,hit.at λo q=>k it (by simp) o q⟩
 item:=by
  intro X hP hw hK hc i pins s σ H E I hf st hg;subst hP hw hK;obtain⟨xs,x,hq,hx⟩:=hg;obtain⟨its,rv,p,hz⟩:=I.list hq;obtain⟨u,hu,ru⟩:=rv.get hx;obtain⟨⟨old,he⟩,hit⟩:=st;have hel:=Y0 he;have hil:it<s.heap.objs.size:=by obtain⟨o,ho,_⟩:=id hit;exact Y0 ho
  have Te:e≠a:=by rintro rfl;obtain⟨o,ho,hc,_⟩:=p.isList;rw[he]at ho;cases ho;exact absurd hc (by simp)
  have hai:a≠it:=by rintro rfl;obtain⟨o,ho,hc,_⟩:=p.isList;obtain⟨o',ho',hc',_⟩:=hit;rw[ho']at ho;cases ho;rw[hc']at hc;exact absurd hc (by simp)
  have D:=Zk1 (Draws.list (prog:=X.prog) (w:=X.w) (A:=X.A.in1) (I.ok.hd hc) it a hai its.toArray);refine WX (i:=i+1) D he ⟨i,rfl,hit,p.isList⟩ (by simpa using(Yh.mp hu).1) hne (by simp[hne,Te]) λy h' tk hy ho hst hT hsz hk=>?_;have ey:y=u:=by
   have q:its.toArray[i]?=Ya u:=by simpa using hu
   have hy':its.toArray[i]?=Ya y:=hy;rw[q]at hy';cases hy';rfl
  subst ey;refine⟨_,rfl,N5 (s:={s with heap:=h',toks:=tk+1}) ho λh'' Dg hs''=>?_⟩;obtain⟨I2,n2⟩:=Td (i:=i+1) (x:=x) (tk':=tk+1) I hf hel hil ru hT hk hs'';obtain⟨j,ej,hst,_⟩:=hst;cases Qy ej;exact⟨.ref s.heap.objs.size,_,I2,rfl,⟨_,x,rfl,I.hok.fresh (Yo _),rfl,λys hy=>by rw[I.MK hy hq];exact hx⟩,⟨⟨_,by simpa using Dg⟩,hst.extBut hs''.extBut (bT hne)⟩,n2⟩
 done:=by
  intro X hP hw hK hc i pins s σ H E I hf st hg;subst hP hw hK;obtain⟨xs,hq,hx⟩:=hg;obtain⟨its,rv,p,hz⟩:=I.list hq;obtain⟨⟨old,he⟩,hit⟩:=st;have hl:=rv.length;have hT:s.TypeIs (.ref e) "enumerate":=⟨_,he,rfl⟩;unfold vo;refine Yc (Oe (wV (name:=lV "__next__") hT Jl
   (u_ Jl hT ZZ (show Y8 _ _ (field (.ref e) 2>>=λo=>_) _ _ _ from ?_) (ZW _))))
  refine Yc (lO he rfl (x:=.ref it) rfl (Yc ?_));refine wpAny_nextOf_list_end (I.ok.hd hc) hit p.isList (by simp;exact lC 2 2268279672881 T1 hl hx) λh' x he' hx'=>?_;obtain⟨o,ho,hc⟩:=hx';refine Yc (Xe (T:="StopIteration") (b:=true) ⟨o,ho,hc⟩ isSubtype_stop (Yn ?_));exact⟨rfl,I.Hu (t':=s.toks) (λb o hb q=>he' b o (λz=>hb (by simp[z])) q) hf⟩
 self:=λ_ _ _ _ _ st h=>by obtain⟨⟨old,he⟩,_⟩:=st;exact zu he h
section
variable {X:Cx} {es:List Expr} {k:Nat} {a:Expr} {p pos tpos kp cp:aP} {f:E3}
def ZsJ(K:Yb)(ta:TA):TI:=λσ H R=>ta σ H λvs H1=>∃b,vs=[.ref b]/\∃xs,bD K H1 b xs/\R (ZwT λH xs=>bD K H b xs) H1
theorem Zj2{M:Model}{A:bj}{E:Yd->Yf->Prop}{s:Yf}{env:cH}{T:String}{e:Expr}{kws:List Keyword}{Q:Yd->Yf->Prop}(h:Y8 M A (Dv (bK pos (Yq [e] env))) (λvs s₁=>Y8 M A (Ij ((iC pos (iB kws env)).map (·.2)))
   (λkvs s₂=>Y8 M A (call (.type T) vs (((iC pos (iB kws env)).filterMap (·.1)).zip kvs)) Q E s₂) E s₁) E s)(he:bK pos (Yq [e] env)=[(false,aF e env)])(hall:(iC pos (iB kws env)).all (·.1.isSome)=true)(hkw:(iC pos (iB kws env)).any (·.1.isNone)=false):
  Y8 M A (zE pos (.type T) [] (bK pos (Yq [e] env)) (iC pos (iB kws env))) Q E s:=by
 rw[he]at h ⊢;unfold zE;refine Yc (h_ (fj (YL (Q:=λa s₁=>Y8 M A (call (.type T) a.pos a.kw) Q E s₁) hall h) (λa s₁ h₁=>Yc (vd ?_)) λ_ _ x=>x));simp only[hkw,jY,List.any_nil,Ja];refine Yc (Yn (Yc ?_));exact fj h₁ (λr s₂ hr=>Yc (h_ (Ds (Yn hr)))) λ_ _ x=>x
theorem Zp9{ta:TA}{j}(hg:Gl X "enumerate")(hm:X.mg "enumerate" =Yj)(ha:PA X [a] ta)(he:bK pos (Yq [a] X.env)=[(false,aF a X.env)]):
  PI X (.Tuple es k tpos) (.Call (.Name "enumerate" p) [a] [⟨Ya "start",.Constant (.int 1) j cp,kp⟩] pos) (ZsJ X.K ta):=by
 intro pins s σ H R I h;refine wX (xW I hg hm boot_enumerate (Zj2 (aH (ha pos pins s σ H _ I h) λus s1 ak=>?_) he rfl rfl));obtain⟨vs,H1,I1,r1,q1⟩:=ak;refine aH ((ZnW (nm:=Ya "start") (kpos:=kp) (QQ (j:=j) (pos:=cp) (i:=1)) ZqS) pos pins s1 σ H1 (λzs H'=>zs=[.int 1]/\H'=H1) I1 ⟨rfl,rfl⟩) λws s2 Gr=>?_;obtain⟨zs,H2,I2,rz,rfl,rfl⟩:=Gr;obtain⟨b,e,xs,hq,q⟩:=q1;subst e;cases r1 with
 | cons r rr=>
  cases rr
  cases r
  cases rz with
  | cons r' rr=>
   cases rr
   obtain⟨t,rfl⟩:=r';have fp:∀c∈[s2.heap.objs.size+1,s2.heap.objs.size],gR X pins H2 c:=λc hc=>by
    have hc':s2.heap.objs.size<=c:=by simp only[Ym,ig,or_false]at hc;rcases hc with rfl|rfl <;>omega
    exact I2.u0 hc' (I2.hok.fresh hc')
   obtain⟨its,rv,pl,hz⟩:=I2.list hq;refine ZmS (t:=t) pl.isList λh' hE hI hk=>?_;have I3:Inv X pins σ H2 {s2 with heap:=h'}:=I2.kept (t':=s2.toks) hk;exact zu (s:={s2 with heap:=h'}) hE ⟨_,[s2.heap.objs.size+1,s2.heap.objs.size],_,_,H2,rfl,I3,Zl7 b _ _ (Pj _),⟨⟨_,hE⟩,hI⟩,fp,q⟩
theorem ZpC{j}(hm:X.mg "enumerate" =Yj)(h:C3 X a f)(hg:autoParam (Gl X "enumerate") qA)(he:autoParam (bK pos (Yq [a] X.env)=[(false,aF a X.env)]) qA)(hs':autoParam (Yq (a::[]) X.env=(false,aF a X.env)::Yq [] X.env) qA):
  CIL X (.Tuple es k tpos) (.Call (.Name "enumerate" p) [a] [⟨Ya "start",.Constant (.int 1) j cp,kp⟩] pos) (RQ f):=
 PI.imp (Zp9 hg hm (Zc h Zf hs') he) λσ H R ak=>by
  obtain⟨ι,M,env,S,E,h⟩:=ak;obtain⟨d,M1,e1,h⟩:=Bw.bind h;refine⟨ι,M,env,S,E,?_⟩;have e2:Zb f Zg env M= .ok [d] M1:=by unfold Zb;rw[e1];rfl
  rw[e2];intro vs H1 ι1 x1 S1 r1;obtain⟨v,ws,rfl,r,q⟩:=r1.cons_inv;have:=q.nil_inv;subst this;cases d with
  | ref n=>
   cases hm:M1[n]? with
   |none=>simp only[hm]at h;exact h.elim|some o=>
    cases o with
    | lst ds=>
     simp only[hm]at h;obtain⟨b,ha,rfl⟩:=r.e_;obtain⟨vs,q,r⟩:=S1.obj n _ b hm ha;refine⟨b,rfl,vs,bD.of q,h _ H1 ι1 x1 S1 ?_⟩;intro i H2 ι2 M2 x S2 lk;have Ga:M2[n]?=Ya (.lst ds):=by simpa[je]using lk
     obtain⟨vs2,q2,r2⟩:=S2.obj n _ b Ga (x.pre _ _ ha);refine⟨λd hd=>?_,λhl=>⟨vs2,bD.of q2,by rw[r2.length,hl,J9];exact Yo _⟩⟩;rw[J8,q9 1 i]at hd;cases hq:ds[i]? with
     |none=>rw[hq]at hd;cases hd|some d0=>rw[hq]at hd;cases hd;obtain⟨v,hv,rv⟩:=r2.get hq;refine⟨⟨vs2,v,bD.of q2,hv⟩,λy H3 hy=>?_⟩;obtain⟨T,y',rfl,hT,rfl,hall⟩:=hy;have e:=hall vs2 (bD.of q2);rw[hv]at e;cases e;exact S2.tE hT (Zm.cons Rep.int (Zm.cons rv Zm.nil))
    |_=>simp only[hm]at h;exact h.elim
  |_=>exact h.elim
end
end _L3
namespace _L3
open PySem PySem.Spec PyProof.Rows _L2
noncomputable def Zw9(i:Int)(v:Yd):Bool:=match v with
 | .int j _=>decide (j=i)|_=>false
def Zwz(i:Int)(v:Yd):Prop:=∃t,v= .int i t
variable{i:Int}
theorem Zr2{v:Yd}(h:Zw9 i v=true):Zwz i v:=by
 cases v with
 |int j t=>exact⟨t,by rw[of_decide_eq_true (show decide (j=i)=true from h)]⟩|_=>exact ft h
noncomputable def BP(t:jO):List (aj×Int):=t.map λp=>(⟨p.1.toArray⟩,p.2)
abbrev lu(K:Yb)(a:Ys)(t:jO):Prop:=KTD.tabLook Zw9 (λb=>K.lookup b) a (BP t)=true
theorem lu.at{K:Yb}{a:Ys}{t:jO}{h:au}(T:lu K a t)(X:K.In h):pK Zwz h a (BP t):=YX (λ_ _ q=>Zr2 q) X T
theorem BR(x:List Nat):∀t:jO,mU (⟨x.toArray⟩:aj) (BP t)=dX x t
 |[]=>rfl|(k,v)::r=>by
  show(if decide ((⟨x.toArray⟩:aj)=⟨k.toArray⟩)=true then Ya v else mU ⟨x.toArray⟩ (BP r))=(if x=k then Ya v else dX x r);by_cases e:x=k
  .subst e;rw[if_pos rfl,if_pos (decide_eq_true rfl)]
  .rw[if_neg e,if_neg (by simp[e]),BR x r]
variable{Q:Yd->Yf->Prop}{δ:Type}
section
variable {prog:aZ} {w:aU} {A:bj} {E:Yd->Yf->Prop} {s:Yf} {a:Ys} {K:Yb} {tk:eG}
theorem Zq1{R:δ->Yd->Prop}{l:List DictEntry}{T:List (aj×δ)}(h:KTD.Rows R l T):∀e∈l,∃x t,e.key= .str x t:=by
 induction h with
 |nil=>intro e he;cases he|cons hk _ _ ih=>
  intro e he;rcases Ym.mp he with q|q
  .rw[q];exact⟨_,_,hk⟩
  .exact ih e q
theorem ZoA{R:δ->Yd->Prop}{T:List (aj×δ)}{Q:Option Yd->Yf->Prop}(h:pK R s.heap a T)(hn:Q Yj {s with toks:=s.toks+1}):Y8 (ao prog w) A (vm a (.int i tk)) Q E s:=by
 obtain⟨_,o,es,ep,ho,hc,hd,hr⟩:=h;have hs:∀e∈es,∃x t,e.key= .str x t:=λe he=>Zq1 hr e (by simpa using he);unfold vm
 try with_reducible refine h_ ?_
 refine Yc (W_ (Yc ?_));unfold dictFind
 try with_reducible refine h_ ?_
 refine Yc (W9 (s:={s with toks:=s.toks+1}) ho hd ?_);dsimp only;rw[if_pos]
 .unfold dictWalkPlain;refine Yc ?_;refine wpAny_forIn_list _ (λ_ b s'=>s'={s with toks:=s.toks+1}/\b=(Yj,())) _ ?_ ?_ _ _ ⟨rfl,rfl⟩
  .rintro x rest b s' ⟨rfl,rfl⟩;cases he:es[x]? with
   |none=>exact Yn ⟨rfl,rfl⟩|some e=>
    obtain⟨y,t,ek⟩:=hs e (ZL he);dsimp only;by_cases hh:(e.hash==hashInt i)=true
    .rw[if_pos hh,ek];refine Yc (Xh (s:={s with toks:=s.toks+1}) ho hd (Yc (Jr y t i tk prog w E _ (Yc (Xh (s:={s with toks:=s.toks+1}) ho hd ?_)))));show Y8 _ _ (if(ep !=ep)=true then _ else _) _ E _;rw[if_neg (by simp)];exact Yc (Ib (Yn ⟨rfl,rfl⟩))
    .rw[if_neg hh];exact Yn ⟨rfl,rfl⟩
  .rintro b s' ⟨rfl,rfl⟩;exact Yn (Yn hn)
 .rw[iU];refine vJ.mpr ⟨rfl,gO.mpr λv hv=>?_⟩;obtain⟨j,_,hj⟩:=Dy.mp hv;cases he:es[j]? with
  |none=>rw[he]at hj;cases hj|some e=>
   rw[he]at hj;obtain rfl:e.key=v:=by simpa using hj
   obtain⟨y,t,ek⟩:=hs e (ZL he);rw[ek];rfl
theorem ZmZ{R:δ->Yd->Prop}{T:List (aj×δ)}{k:aj}{z:Yd}:
  MeetsIn prog w (Builtin.«dict.get» ⟨[.ref a,.str k tk,z],[]⟩) λ_ Z s=>pK R s.heap a T/\(∀d v,mU k T=Ya d->R d v->Z (.ok (.ret v)) {s with toks:=s.toks+1})/\(mU k T=Yj->Z (.ok (.ret z)) {s with toks:=s.toks+1}):=
 .of_wp λA Z s zz=>by obtain⟨h,h1,h2⟩:=zz;show Y8 _ _ (vm a (.str k tk)>>=λo=>_) _ _ s;refine Yc (Tv h (λd v e r=>Yn ⟨v,rfl,h1 d v e r⟩) λe=>?_);show Y8 _ _ (Yka a (.str k tk)>>=λo=>_) _ _ _;exact Yc (W7 h.1 (Yn ⟨z,rfl,h2 e⟩))
theorem ZlZ{R:δ->Yd->Prop}{T:List (aj×δ)}{z:Yd}:
  MeetsIn prog w (Builtin.«dict.get» ⟨[.ref a,.int i tk,z],[]⟩) λ_ Z s=>pK R s.heap a T/\Z (.ok (.ret z)) {s with toks:=s.toks+1}:=
 .of_wp λA Z s zz=>by obtain⟨h,h2⟩:=zz;show Y8 _ _ (vm a (.int i tk)>>=λo=>_) _ _ s;refine Yc (ZoA h ?_);show Y8 _ _ (Yka a (.int i tk)>>=λo=>_) _ _ _;exact Yc (W7 h.1 (Yn ⟨z,rfl,h2⟩))
theorem Zrf{R:δ->Yd->Prop}{T:List (aj×δ)}{k:aj}{z:Yd}(h:pK R s.heap a T)(h1:∀d v,mU k T=Ya d->R d v->Q v {s with toks:=s.toks+1})(h2:mU k T=Yj->Q z {s with toks:=s.toks+1}):Y8 (ao prog w) A (call (.builtin "dict.get") [.ref a,.str k tk,z]) Q E s:=call_meetsIn Qj (sI h) Z0 (ZX _ _ _) (ZmZ (R:=R) (T:=T)) ⟨h,h1,h2⟩
theorem Zpl{R:δ->Yd->Prop}{T:List (aj×δ)}{z:Yd}(h:pK R s.heap a T)(h2:Q z {s with toks:=s.toks+1}):Y8 (ao prog w) A (call (.builtin "dict.get") [.ref a,.int i tk,z]) Q E s:=call_meetsIn Qj (sI h) Z0 (ZX _ _ _) (ZlZ (R:=R) (T:=T)) ⟨h,h2⟩
end
section
variable {X:Cx} {e e':Expr} {x:aj} {a:Ys} {t:jO} {npos apos cpos pos:aP} {g g':E3}
inductive Zx5(t:jO)(y z:V)(H1:Hp)(Q:VK):Prop
 |str (k:List Nat) (e:y= .str ⟨k.toArray⟩) (s:∀i,dX k t=Ya i->Q (.int i) H1) (n:dX k t=Yj->Q z H1)
 |int (i:Int) (e:y= .int i) (n:Q z H1)
theorem Zp4{te te':TE}(hm:X.mg x=Ya (.ref a))(ht:lu X.K a t)(he:PE X e te)(he':PE X e' te')(m:M2 X (.Name x npos) "get" apos e e' cpos)(hg:Gl X x)(hd:(x==("__debug__":aj))=false):
  PE X (.Call (.Attribute (.Name x npos) "get" apos) [e,e'] [] cpos) (λσ H Q=>te σ H λy H1=>te' σ H1 λz H2=>Zx5 t y z H2 Q):=by
 intro pins s σ H Q I h;refine wpAny_Call_method m.base m.few m.line PySem.F.plainAttrs_dict Qj PySem.F.type_dict_get (aH (Ad (v:=.ref a) (u:=.ref a) hg hm rfl hd pins s σ H (λv H'=>v= .ref a/\H'=H) I ⟨rfl,rfl⟩) λu s1 ak=>?_);obtain⟨v,H1,I1,r1,rfl,rfl⟩:=ak;obtain rfl:u=Value.ref a:=r1;have T1:=ht.at I1.bN;refine⟨sI T1,λb q=>?_,?_⟩
 .cases q
  obtain⟨_,ob,_,_,h1,h2,_⟩:=T1;exact⟨ob,h1,h2.2.1⟩
 rw[m.trees];refine Qv rfl (Qw (Qx (aH (he pins s1 σ H1 _ I1 h) λiv s2 ⟨y,H2,I2,ry,q2⟩=>Qx (aH (he' pins s2 σ H2 _ I2 q2) λfv s3 ⟨z,H3,I3,rz,q3⟩=>Yky ?_))));cases q3 with
 | str k ey hs hn=>
  rw[ey]at ry;obtain⟨tk,rfl⟩:=ry;refine Zrf (ht.at I3.bN) (λd v ed rv=>?_) λed=>?_
  .rw[BR]at ed;obtain⟨t',rfl⟩:=rv;exact⟨.int d,H3,I3.tok _,⟨t',rfl⟩,hs d ed⟩
  .rw[BR]at ed;exact⟨z,H3,I3.tok _,rz,hn ed⟩
 |int i ey hn=>rw[ey]at ry;obtain⟨tk,rfl⟩:=ry;exact Zpl (ht.at I3.bN) ⟨z,H3,I3.tok _,rz,hn⟩
theorem Zno(hm:X.mg x=Ya (.ref a))(ht:lu X.K a t)(he:C3 X e g)(he':C3 X e' g')(m:M2 X (.Name x npos) "get" apos e e' cpos:=by exact⟨rfl,rfl,rfl,rfl⟩)(hg:autoParam (Gl X x) qA)(hd:autoParam ((x==("__debug__":aj))=false) qB):
  C3 X (.Call (.Attribute (.Name x npos) "get" apos) [e,e'] [] cpos) (e2 (uo t) g g'):=(Zp4 hm ht he he' m hg hd).imp λσ H Q ak=>by
 obtain⟨ι,M,env,S,E,h⟩:=ak;obtain⟨d,M1,e1,h⟩:=Zn.bind h;obtain⟨d2,M2,e2,h⟩:=Zn.bind h;refine⟨ι,M,env,S,E,?_⟩;rw[e1];intro y H1 ι1 x1 S1 r1;refine⟨ι1,M1,env,S1,E.mono x1,?_⟩;rw[e2];intro z H2 ι2 x2 S2 r2;have h:=(h.up x1).up x2;cases d with
 | str k=>
  cases r1.str_inv
  refine .str k rfl (λi ei=>?_) λen=>?_
  .have h:Zn X.K H2 ι2 Q (match dX k t with|some i=>.ok (.int i) M2|none=>.ok d2 M2):=h
   rw[ei]at h;exact Zn.ok h S2 Rep.int
  .have h:Zn X.K H2 ι2 Q (match dX k t with|some i=>.ok (.int i) M2|none=>.ok d2 M2):=h
   rw[en]at h;exact Zn.ok h S2 r2
 |int i=>
  cases r1.int_inv
  exact .int i rfl (Zn.ok h S2 r2)
 |_=>exact h.elim
end
section
variable {X:Cx} {pos:aP}
theorem Zr9{x:aj}{a:Ys}{ds:List (List Nat)}(hm:X.mg x=Ya (.ref a))(ht:BL X.K (ds.map λy=>(⟨y.toArray⟩:aj)) (.ref a)=true)(hg:autoParam (Gl X x) qA)(hd:autoParam ((x==("__debug__":aj))=false) qB):C3 X (.Name x pos) (eC (.tup (ds.map D.str))):=by obtain⟨b,eb,sq⟩:=ZnM ht;cases eb;exact ur (v:=.ref a) hm rfl (λH ι=>Rep.tup (sq H) (Zls ds)) hg hd
theorem Zrq:bh X (fX .NotIn) (r2 X.K Be):=by
 intro pins s σ H x y v u Q I rx ry ⟨ι,M,a,b,S,ra,rb,h⟩;unfold Be at h;cases b with
 | ref n=>
  cases hn:M[n]? with
  |none=>simp only[hn]at h;exact h.elim|some ob=>
   cases ob with
   |dct _=>simp only[hn]at h;exact h.elim|cV _=>simp only[hn]at h;exact h.elim|ins _ _=>simp only[hn]at h;exact h.elim|lst ds=>
    simp only[hn]at h;by_cases hf:(b8 a&&ds.all b8)=true
    .rw[if_pos hf]at h;rw[Y5]at hf;obtain⟨p,hp,rfl⟩:=rb.e_;cases ry;obtain⟨vs,e1,r1⟩:=S.obj n _ p hn hp;obtain⟨its,rvs,pl,_⟩:=I.list (bD.of e1);have he:∀y,y∈its.toArray->rm X.A.in1 s y v (cG (Bx y) a):=λy hy=>by
      have hy:y∈its:=by simpa using hy
      obtain⟨j,hj⟩:=Ir hy;have hjl:j<vs.length:=by rw[rvs.length];exact(Yh.mp hj).1
      obtain⟨w,hw,i_⟩:=rvs.get (jG hjl);rw[hj]at hw;cases hw;have Gk:j<ds.length:=by rw[←r1.length];exact hjl
      obtain⟨z,hz,rz⟩:=r1.get (jG Gk);rw[jG hjl]at hz;cases hz;have hfl:=gO.mp hf.2 _ (xx Gk);rw[Tf hfl rz i_];exact Kh X.A.in1 ds[j] a _ x y v hfl hf.1 rz ra i_ rx
     refine SeqAt.notIn_listAt (λy=>cG (Bx y) a) pl.isList he ⟨.bl (!ds.any λy=>cG y a),H,I,?_,h _ H ι Ext.refl S Rep.bl⟩;show(.bool _:Yd)= .bool _;rw[Tg r1 rvs hf.2];simp
    .rw[if_neg hf]at h;exact h.elim
 |_=>exact h.elim
end
noncomputable section
theorem ZoH(is:List Int):kI (is.map D.int)=Ya is:=by
 induction is with
 |nil=>rfl|cons i is ih=>show(kI (is.map D.int)).map _=_;rw[ih];rfl
noncomputable def sJ(k:Int):List Int->Int
 |[]=>k|a::r=>r.foldl (λm x=>if x>m then x else m) a
noncomputable def BV(k:Int)(ds:List D)(M:Store):R3 D:=match ds with
 |[.ref n]=>Gd M[n]? λxs=>yu ((kI xs).map λis=>D.int (sJ k is)) λd=>.ok d M|_=>.bad
theorem Zl0{k:Int}{n:Nat}{M:Store}{is:List Int}(h:M[n]?=Ya (.lst (is.map D.int))):BV k [.ref n] M= .ok (.int (sJ k is)) M:=by show Gd M[n]? _=_;rw[h];show yu ((kI (is.map D.int)).map λis=>D.int (sJ k is)) _=_;rw[ZoH];rfl
noncomputable def unlike:List (List Nat)->List (List Nat)->List (List Nat)
 |acc,[]=>acc|acc,x::r=>unlike (if acc.contains x then acc else acc++[x]) r
noncomputable def Zok(ds:List D)(M:Store):R3 D:=match ds with
 |[.ref n]=>Gd M[n]? λxs=>yu ((jd xs).map λss=>D.int ((unlike [] ss).length:Int)) λd=>if xs.length<=20 then .ok d M else .bad|_=>.bad
end
noncomputable section
noncomputable def uE(t:jO)(d:D)(M:Store):R3 D:=match d with
 | .str x=>.ok (.bl (dX x t).isSome) M|_=>.bad
noncomputable def KN(t:jO)(d:D)(M:Store):R3 D:=match d with
 | .str x=>.ok (.bl (!(dX x t).isSome)) M|_=>.bad
noncomputable def Gs(t:jO)(d:D)(M:Store):R3 D:=match d with
 | .str x=>(match dX x t with
  |some i=>.ok (.int i) M|none=>.bad)
 |_=>.bad
end
noncomputable section
noncomputable def sO(a b:D)(M:Store):R3 D:=match a,b with
 | .ref n,.ref m=>(match M[n]?,M[m]? with
  |some (.lst x),Ya (.lst [])=>.ok (.bl (!x.isEmpty)) M|_,_=>.bad)
 |_,_=>.bad
theorem ZqA{n m:Nat}{M:Store}{x:List D}(h:M[n]?=Ya (.lst x))(k:M[m]?=Ya (.lst [])):sO (.ref n) (.ref m) M= .ok (.bl (!x.isEmpty)) M:=by simp only[sO,h,k]
end
noncomputable section
end
set_option maxRecDepth 100000
theorem Zm2(a d:Yd):Dk "max" ⟨[a],[("default",d)]⟩=pure ():=by kernel_rfl
theorem KQ:(vK "max" ++vK ".loop":String)= "max.loop":=by decide
variable{E:Yd->Yf->Prop}
theorem ZsS{prog:aZ}{w:aU}{A:bj}{s:Yf}{a b:Int}{t u:eG}(h:Q (.bool (decide (a>b))) s):Y8 (ao prog w) A (richCompare .Gt (.int a t) (.int b u)) Q E s:=
 CmpOf.ints_gt (P:=λi v=>if i=0 then v= .int a t else v= .int b u) (λi=>if i=0 then a else b) (λi v hv=>by
  by_cases c:i=0
  .rw[if_pos c]at hv ⊢;exact⟨t,hv⟩
  .rw[if_neg c]at hv ⊢;exact⟨u,hv⟩) 0 1 _ _ s Q E rfl rfl h
theorem ZpR{vs:List Yd}{ns:List Int}(h:IntsAre vs ns):vs.length=ns.length:=by
 induction h with
 |nil=>rfl|cons n t _ ih=>rw[Yk,Yk,ih]
section
variable {prog:aZ} {w:aU} {A:bj} {R:n8->Yf->Prop} {I L S:Ys} {vs:List Yd} {ns:List Int} {dv:Yd}
theorem Zsi(hh:A.in1.handled=Yj)(hLI:L≠I)(hSI:S≠I)(BW:S≠L)(hi:IntsAre vs ns):∀(k j:Nat) (m:Int) (s:Yf) (tb:eG) (c:Nat),vs.length-(j+1)=k->j+1<=vs.length->s.heap.IsListIter I L (j+1)->s.heap.IsList L vs.toArray ->
  s.heap.get? S=Ya {cls:=.type "list",dict:=Yj,data:=.seq #[.int m tb,.int m tb] c,slots:=#[]} ->
  (∀h' t tk,(∀b o,b≠I->b≠S->s.heap.get? b=Ya o->h'.get? b=Ya o)->R (.ok (.ret (.int ((ns.drop (j+1)).foldl (λm x=>if x>m then x else m) m) t))) {s with heap:=h',toks:=tk}) ->
  jt (ao prog w) A (.builtin "max.loop" ⟨[.ref I,.none,.ref S],[("default",dv)]⟩) R s:=by
 have W:=Jt (prog:=prog) (w:=w) (A:=A.in1) hh I L hLI vs.toArray;have len:ns.length=vs.length:=(ZpR hi).symm;intro k
 induction k with
 |zero=>
  intro j m s tb c hk hj hst hL hS hR;have hin:vs.toArray.size=j+1:=by rw[Yt];omega
  refine w5 Qn ?_;rw[Ef xO _];refine Yc (Dn hS rfl ?_);refine Yc (Dq (W.done s _ _ (hin▸⟨hst,hL⟩) λh' tk hk'=>?_));have hS':=hk' S _ (by simp[hSI]) hS;refine Yc ?_;refine Oa hS' rfl (Yc (Ia (Yn ?_)));have e:ns.drop (j+1)=[]:=Ip (by omega);rw[e]at hR;exact hR _ tb _ λb o h1 h2 q=>(mR _ _ (bT h2)).trans (hk' b o (by simp[h1]) q)
 | succ k ih=>
  intro j m s tb c hk hj hst hL hS hR;have hlt:j+1<vs.length:=by omega
  refine w5 Qn ?_;rw[Ef xO _];refine Yc (Dn hS rfl ?_);refine Yc (Dq (W.item (j+1) s _ _ (by rw[Yt];exact hlt) ⟨hst,hL⟩ λv h' tk hP hst' hk'=>?_));have hS':=hk' S _ (by simp[hSI]) hS;obtain⟨x,t,hx,rfl⟩:∃x t,ns[j+1]?=Ya x/\v= .int x t:=by rw[Xr]at hP;obtain⟨x,t,e,hx⟩:=hi.at (j+1) v hP;exact⟨x,t,hx,e⟩
  have ed:ns.drop (j+1)=x::ns.drop (j+1+1):=by have hl:j+1<ns.length:=(Yh.mp hx).1;rw[zJ hl,(Yh.mp hx).2]
  rw[ed,vC]at hR;refine Yc (Yn ?_);refine Yc (Dq (h_ (Yc (ZsS ?_))));refine Yc (h_ (tQ ?_));refine Yc (Ia (Yn ?_));by_cases hb:x>m
  .rw[if_pos hb]at hR;rw[decide_eq_true hb];simp only[if_true];refine Yc ?_;refine Oa hS' rfl (Yc (Ia ?_));rw[KQ];refine Yn ⟨Dr xO _,ih (j+1) x _ t _ (by omega) hlt (hst'.1.at λo e=>(mR _ _ hSI).trans e) (hst'.2.at λo e=>(mR _ _ BW).trans e) (xJ _ hS' rfl) λh'' t' tk' hk''=>?_⟩;exact hR h'' t' tk' λb o h1 h2 q=>hk'' b o h1 h2 ((mR _ _ (bT h2)).trans (hk' b o (by simp[h1]) q))
  .rw[if_neg hb]at hR;rw[decide_eq_false hb];simp only[DX,if_false];refine Yc (Ia ?_);rw[KQ];refine Yn ⟨Dr xO _,ih (j+1) m _ tb c (by omega) hlt hst'.1 hst'.2 hS' λh'' t' tk' hk''=>?_⟩;exact hR h'' t' tk' λb o h1 h2 q=>hk'' b o h1 h2 (hk' b o (by simp[h1]) q)
end
section
variable {prog:aZ} {w:aU} {A:bj} {E:Yd->Yf->Prop} {s:Yf} {L:Ys} {vs:List Yd} {ns:List Int} {k:Int} {td:eG}
theorem ZoI(hh:A.handled=Yj)(hL:s.heap.IsList L vs.toArray)(hi:IntsAre vs ns)(h:∀h' t tk,(∀b o,s.heap.get? b=Ya o->h'.get? b=Ya o)->Q (.int (sJ k ns) t) {s with heap:=h',toks:=tk}):Y8 (ao prog w) A (call (.builtin "max") [.ref L] [("default",.int k td)]) Q E s:=by
 have hh1:A.in1.handled=Yj:=hh;have hlt:L<s.heap.objs.size:=by obtain⟨_,e,_⟩:=hL;exact Y0 e
 refine pF (wW F.plain_max F.entry_max (H_ (Zm2 _ _) ?_));refine Yc (H_ (show Builtin.Builtins.bindParams "max" ["key","default"] 0 ⟨[],[("default",.int k td)]⟩=pure [Yj,Ya (.int k td)]from rfl) ?_);refine Yc (Yn ?_);refine Yc (wY hL ?_);refine Yc (qZ ?_);rw[KQ]
 let h1:=s.heap.push {cls:=.type "list_iterator",data:=.fields #[.ref L,.int 0 0]}
 let h2:=h1.push {cls:=.type "list",data:=.seq #[]}
 have e1:h1.objs.size=s.heap.objs.size+1:=vG ..;have up:∀b o,s.heap.get? b=Ya o->h2.get? b=Ya o:=λb o q=>Yi _ (Yi _ q);have hI:h2.IsListIter s.heap.objs.size L 0:=⟨_,Yi _ (Y1 _ rfl),rfl,rfl⟩;have hL2:h2.IsList L vs.toArray:=(hL.push _).push _;have hS:h2.get? h1.objs.size=Ya {cls:=.type "list",dict:=Yj,data:=.seq #[] 0,slots:=#[]}:=Y1 _ rfl;have hLI:L≠s.heap.objs.size:=dM hlt;have ls:s.heap.objs.size<h1.objs.size:=e1▸DR _;have hSI:h1.objs.size≠s.heap.objs.size:=xN ls;have BW:h1.objs.size≠L:=xN (j6 hlt ls);have W:=Jt (prog:=prog) (w:=w) (A:=A.in1) hh1 s.heap.objs.size L hLI vs.toArray;have old:∀{h':au},(∀b o,b≠s.heap.objs.size->b≠h1.objs.size->h2.get? b=Ya o->h'.get? b=Ya o)->∀b o,s.heap.get? b=Ya o->h'.get? b=Ya o:=λhk b o q=>by exact hk b o (dM (Y0 q)) (dM (j6 (Y0 q) ls)) (up b o q)
 refine Yn ⟨Dr xO _,w5 Qn ?_⟩;rw[Ef xO _];refine Yc (Dn hS rfl ?_);cases hi with
 |nil=>refine Yc (Dq (W.done _ _ _ ⟨hI,hL2⟩ λh' tk hk=>?_));refine Yc (Ib (Yn ?_));exact h h' td tk (old λb o h1 h2 q=>hk b o (by simp[h1]) q)|cons n t hr=>
  refine Yc (Dq (W.item 0 _ _ _ (by simp) ⟨hI,hL2⟩ λv h' tk hP hst hk=>?_));have hS':=hk _ _ (by simp[hSI]) hS;obtain rfl:v= .int n t:=by simpa using hP.symm
  refine Yc (Yn ?_);refine Yc ?_;refine Oa hS' rfl ?_;rw[KQ];refine Yn ⟨Dr xO _,Zsi hh1 hLI hSI BW (.cons n t hr) _ 0 n _ t _ rfl (by simp) (hst.1.at λo e=>(mR _ _ hSI).trans e) (hst.2.at λo e=>(mR _ _ BW).trans e) (xJ _ hS' rfl) λh'' t' tk' hk''=>?_⟩;exact h h'' t' tk' (old λb o h1 h2 q=>hk'' b o h1 h2 ((mR _ _ (bT h2)).trans (hk b o (by simp[h1]) q)))
end
section
variable {X:Cx} {a:Expr} {p pos kp cp:aP} {f:E3} {k:Int}
def Zwg(K:Yb)(k:Int)(ta:TA):TE:=λσ H Q=>ta σ H λvs H1=>∃b xs ns,vs=[.ref b]/\bD K H1 b xs/\(∀us,Vals xs us->IntsAre us ns)/\Q (.int (sJ k ns)) H1
theorem ZkW{M:Model}{A:bj}{s:Yf}{env:cH}{T:String}{e:Expr}{kws:List Keyword}(h:Y8 M A (Dv (bK pos (Yq [e] env))) (λvs s₁=>Y8 M A (Ij ((iC pos (iB kws env)).map (·.2)))
   (λkvs s₂=>Y8 M A (call (.builtin T) vs (((iC pos (iB kws env)).filterMap (·.1)).zip kvs)) Q E s₂) E s₁) E s)(he:bK pos (Yq [e] env)=[(false,aF e env)])(hall:(iC pos (iB kws env)).all (·.1.isSome)=true)(hkw:(iC pos (iB kws env)).any (·.1.isNone)=false):
  Y8 M A (zE pos (.builtin T) [] (bK pos (Yq [e] env)) (iC pos (iB kws env))) Q E s:=by
 rw[he]at h ⊢;unfold zE;refine Yc (h_ (fj (YL (Q:=λa s₁=>Y8 M A (call (.builtin T) a.pos a.kw) Q E s₁) hall h) (λa s₁ h₁=>Yc (vd ?_)) λ_ _ x=>x));simp only[hkw,jY,List.any_nil,Ja];refine Yc (Yn (Yc ?_));exact fj h₁ (λr s₂ hr=>Yc (h_ (Ds (Yn hr)))) λ_ _ x=>x
theorem ZsH{ta:TA}{j}(hg:Gl X "max")(hm:X.mg "max" =Yj)(hc:X.calm=true)(ha:PA X [a] ta)(he:bK pos (Yq [a] X.env)=[(false,aF a X.env)]):
  PE X (.Call (.Name "max" p) [a] [⟨Ya "default",.Constant (.int k) j cp,kp⟩] pos) (Zwg X.K k ta):=by
 intro pins s σ H R I h;refine wX (xW I hg hm boot_max (ZkW (aH (ha pos pins s σ H _ I h) λus s1 ak=>?_) he rfl rfl));obtain⟨vs,H1,I1,r1,q1⟩:=ak;refine aH ((ZnW (nm:=Ya "default") (kpos:=kp) (QQ (j:=j) (pos:=cp) (i:=k)) ZqS) pos pins s1 σ H1 (λzs H'=>zs=[.int k]/\H'=H1) I1 ⟨rfl,rfl⟩) λws s2 Gr=>?_;obtain⟨zs,H2,I2,rz,rfl,rfl⟩:=Gr;obtain⟨b,xs,ns,e,hq,hi,q⟩:=q1;subst e;cases r1 with
 | cons r rr=>
  cases rr
  cases r
  cases rz with
  |cons r' rr=>
   cases rr
   obtain⟨t,rfl⟩:=r';obtain⟨its,rv,pl,hz⟩:=I2.list hq;refine ZoI (td:=t) (I2.ok.hd hc) pl.isList (hi its rv) λh' t' tk hk=>?_;exact⟨.int (sJ k ns),H2,I2.kept (t':=tk) hk,⟨t',rfl⟩,q⟩
theorem ZpV{j}(hm:X.mg "max" =Yj)(h:C3 X a f)(hg:autoParam (Gl X "max") qA)(hc:autoParam (X.calm=true) qA)(he:autoParam (bK pos (Yq [a] X.env)=[(false,aF a X.env)]) qA)(hs':autoParam (Yq (a::[]) X.env=(false,aF a X.env)::Yq [] X.env) qA):
  C3 X (.Call (.Name "max" p) [a] [⟨Ya "default",.Constant (.int k) j cp,kp⟩] pos) (aG (BV k) (Zb f Zg)):=
 (ZsH hg hm hc (Zc h Zf hs') he).imp λσ H Q ak=>by
  obtain⟨ι,M,env,S,E,h⟩:=ak;refine⟨ι,M,env,S,E,?_⟩;have h:Zn X.K H ι Q ((Zb f Zg env M).bind λds M'=>BV k ds M'):=h;cases q:Zb f Zg env M with
  |exc _ _=>rw[q]at h;exact h.elim|bad=>rw[q]at h;exact h.elim|ok ds M1=>
   rw[q]at h;intro vs H1 ι1 x1 S1 r1;have h:Zn X.K H ι Q (BV k ds M1):=h
   match ds,h,r1 with
   |[],h,_=>exact h.elim|d1::d2::r,h,_=>cases d1<;>exact h.elim|[d],h,r1=>
    cases d with
    |ref n=>obtain⟨xs,hn,h⟩:=RZ h;obtain⟨d,hd,h⟩:=Gb h;obtain⟨ns,hns,rfl⟩:=Nm.mp hd;obtain⟨v,ws,rfl,rv,Tz⟩:=r1;obtain⟨p,hp,rfl⟩:=rv.e_;obtain⟨us,e1,r2⟩:=S1.obj n _ p hn hp;rw[show ws=[]from Tz];exact⟨p,us,ns,rfl,.inl (.inl e1),λits rr=>ZjQ hns r2 rr,Zn.ok (h.up x1) S1 Rep.int⟩|_=>exact h.elim
end
set_option maxRecDepth 100000
noncomputable def mG:List aj->List aj->List aj
 |acc,[]=>acc|acc,x::r=>mG (if acc.any (· ==x)then acc else acc++[x]) r
theorem any_put(acc:List aj)(x k:aj):(if acc.any (· ==x)=true then acc else acc++[x]).any (· ==k)=(acc.any (· ==k)|| decide (k=x)):=by
 by_cases c:acc.any (· ==x)=true
 .rw[if_pos c];by_cases e:k=x
  .rw[e,c];rfl
  .rw[decide_eq_false e,Ja]
 .rw[if_neg c,List.any_append];congr 1;by_cases e:k=x
  .subst e;simp
  .rw[decide_eq_false e];simp[bT e]
section
variable {prog:aZ} {w:aU} {A:bj} {R:n8->Yf->Prop} {I L S:Ys} {l:List (aj×eG)}
theorem Zs3(hh:A.in1.handled=Yj)(hLI:L≠I)(hSI:S≠I)(BW:S≠L)(hb:l.length<=20):∀(k i:Nat) (acc:List aj) (s:Yf),l.length-i=k->i<=l.length->acc.length<=i->s.heap.IsListIter I L i->s.heap.IsList L (jT l).toArray->s.heap.SetOf (strKind prog w) S (λk=>acc.any (· ==k)) acc.length ->
  (∀h' tk,(∀b o,b≠I->b≠S->s.heap.get? b=Ya o->h'.get? b=Ya o)->h'.SetOf (strKind prog w) S (λk=>(mG acc ((l.drop i).map (·.1))).any (· ==k)) (mG acc ((l.drop i).map (·.1))).length->R (.ok (.ret .none)) {s with heap:=h',toks:=tk}) ->
  jt (ao prog w) A (.builtin "set.update.loop" ⟨[.ref S,.ref I],[]⟩) R s:=by
 have W:=Jt (prog:=prog) (w:=w) (A:=A.in1) hh I L hLI (jT l).toArray;have sz:(jT l).toArray.size=l.length:=by simp[jT]
 intro k
 induction k with
 |zero=>
  intro i acc s hk hi ha hst hL hS hR;have hin:(jT l).toArray.size=i:=by omega
  refine w5 ZC ?_;rw[Ef PN _];refine Yc (W.done s _ _ (hin▸⟨hst,hL⟩) λh' tk hk'=>?_);have e:l.drop i=[]:=Ip (by omega);rw[e]at hR;obtain⟨o,es,ep,t,ho,rest⟩:=hS;exact Yn (hR h' tk (λb o h1 _ q=>hk' b o (by simp[h1]) q) ⟨o,es,ep,t,hk' S _ (by simp[hSI]) ho,rest⟩)
 | succ k ih=>
  intro i acc s hk hi ha hst hL hS hR;have hlt:i<l.length:=by omega
  refine w5 ZC ?_;rw[Ef PN _];refine Yc (W.item i s _ _ (by omega) ⟨hst,hL⟩ λv h' tk hP hst' hk'=>?_);have hv:v= .str (l[i]'hlt).1 (l[i]'hlt).2:=by rw[Xr]at hP;simp only[jT,ou,jG hlt,Np]at hP;exact(Y9 hP).symm
  have ed:l.drop i=l[i]'hlt::l.drop (i+1):=zJ hlt;rw[ed,Yv]at hR;generalize l[i]'hlt=q at hv hR;obtain⟨x,t⟩:=q;subst hv;have hS':h'.SetOf (strKind prog w) S (λk=>acc.any (· ==k)) acc.length:=by obtain⟨o,es,ep,tb,ho,rest⟩:=hS;exact⟨o,es,ep,tb,hk' S _ (by simp[hSI]) ho,rest⟩
  have hx:(strKind prog w).is x (.str x t)=true:=beq_self_eq_true x;have room:acc.length+1<Ov:=by have:Ov=4096:=rfl;omega
  refine Yc (h_ ?_);unfold setAdd;refine h_ ?_;refine Yc ((strKind prog w).pyHash (k:=x) hx ?_);refine wpAny_setAddHashed_of (knd:=strKind prog w) hx rfl hS' room λh'' sb hS2=>?_;refine Yn ⟨Dr PN _,ih (i+1) (if acc.any (· ==x)=true then acc else acc++[x]) _ (by omega) hlt ?_ (hst'.1.at λo e=>(sb.2 I (bT hSI)).trans e) (hst'.2.at λo e=>(sb.2 L (bT BW)).trans e) ?_ λh3 tk3 hk3 hS3=>?_⟩
  .by_cases c:acc.any (· ==x)=true
   .rw[if_pos c];omega
   .rw[if_neg c,Yl,lQ];omega
  .refine SetOf_congr hS2 (λk=>(any_put acc x k).symm) ?_;by_cases c:acc.any (· ==x)=true
   .rw[if_pos c,if_pos c]
   .rw[if_neg c,if_neg c,Yl,lQ]
  .exact hR h3 tk3 (λb o h1 h2 q=>hk3 b o h1 h2 ((sb.2 b h2).trans (hk' b o (by simp[h1]) q))) hS3
end
noncomputable abbrev p6(led:Bool):aD:={cls:=.type "set",dict:=Yj,data:=.set #[] 0 (.fresh 0 0 led)}
section
variable {prog:aZ} {w:aU} {A:bj} {E:Yd->Yf->Prop} {s:Yf} {L:Ys} {l:List (aj×eG)}
theorem ZoK(hh:A.handled=Yj)(hl:s.heap.IsList L (jT l).toArray)(hb:l.length<=20)(led:Bool){R:n8->Yf->Prop}(h:∀h' tk,h'.SetOf (strKind prog w) s.heap.objs.size (λk=>(mG [] (l.map (·.1))).any (· ==k)) (mG [] (l.map (·.1))).length->(∀b o,s.heap.get? b=Ya o->h'.get? b=Ya o)->R (.ok (.ret .none)) {s with heap:=h',toks:=tk}):
  Y8 (ao prog w) A.in1 (Builtin.«set.__init__» ⟨[.ref s.heap.objs.size,.ref L],[]⟩) (λfin s'=>match fin with| .done f=>R (.ok f) s'| .again c'=>c'.quiet=true/\jt (ao prog w) A c' R s') (λe s'=>R (.error e) s') {s with heap:=s.heap.push (p6 led)}:=by
 have hS:(s.heap.push (p6 led)).get? s.heap.objs.size=Ya (p6 led):=Y1 _ rfl;obtain⟨ol,hol,hcl,nl,hdl⟩:=hl;obtain⟨ocls,odict,odata,oslots⟩:=ol;simp only at hcl hdl;subst hcl hdl;have hol':(s.heap.push (p6 led)).get? L=Ya {cls:=.type "list",dict:=odict,data:=.seq (jT l).toArray nl,slots:=oslots}:=Yi _ hol;have f1:=PySem.F.sub_list_set;have f2:=PySem.F.sub_list_frozenset;have f3:(Value.type "list" ==Value.type "dict")=false:=by decide
 have hl1:(s.heap.push (p6 led)).IsList L (jT l).toArray:=⟨_,hol',rfl,nl,rfl⟩;have hlS:L<s.heap.objs.size:=Y0 hol;have e1:(s.heap.push (p6 led)).objs.size=s.heap.objs.size+1:=vG ..;have ls:s.heap.objs.size<(s.heap.push (p6 led)).objs.size:=e1▸DR _;unfold Builtin.«set.__init__» noKeywords Builtin.Frozenset.updateFrom;generalize hPI:zH=PI
 wp_walk
 subst hPI;refine wY hl1 ?_;refine Yc (wpAny_runValue ?_);refine Zs3 (by simp[hh]) (dM (j6 hlS ls)) (dM ls) (xN hlS) hb _ 0 [] _ rfl (d8 _) (Yo _) ⟨_,Y1 _ rfl,rfl,rfl⟩ (hl1.push _) ?_ λh' tk hk hS'=>?_
 .exact SetOf_congr ((setObjOf_fresh (knd:=strKind prog w) led).setOf (Yi _ hS) (by unfold Ov;omega)) (λ_=>rfl) rfl
 .refine Yn ?_;refine Yn (h h' tk hS' λb o q=>?_);have lb:=Y0 q;exact hk b o (dM (j6 lb ls)) (dM lb) (Yi _ (Yi _ q))
end
set_option maxHeartbeats 1600000 in
theorem Zo7{prog:aZ}{w:aU}{A:bj}{s:Yf}{L:Ys}{l:List (aj×eG)}(hh:A.handled=Yj)(hl:s.heap.IsList L (jT l).toArray)(hb:l.length<=20)(h:∀h' tk,h'.SetOf (strKind prog w) s.heap.objs.size (λk=>(mG [] (l.map (·.1))).any (· ==k)) (mG [] (l.map (·.1))).length->(∀b o,s.heap.get? b=Ya o->h'.get? b=Ya o)->Q (.ref s.heap.objs.size) {s with heap:=h',toks:=tk}):
  Y8 (ao prog w) A (call (.type "set") [.ref L]) Q E s:=by
 obtain⟨c,tl,hmro⟩:=PySem.F.called_set.mro;have g1:=PySem.F.called_set.made;have g2:=PySem.F.called_set.sub;have g3:=PySem.F.called_set.notType;have g4:=PySem.F.called_set.canCreate;have g5:=PySem.F.typeCall_set_1 (.ref L);refine pF (N_ (Yn ⟨Js _ (by decide +kernel),w5 PySem.F.entry_type_call ?_⟩));rw[Z6 (W3 "set" [.ref L] []) rfl]
 repeat(any_goals(first|assumption|wp_step))
 refine pC (code_set_new_1 (.ref L) (E:=E) (Q₁:=λo s1=>∃led,o= .ref s.heap.objs.size/\s1={s with heap:=s.heap.push (p6 led)}) λled=>⟨led,rfl,rfl⟩) λr s1 hr=>?_;cases r with
 |error e=>exact hr|ok fl=>cases fl with
  | ret o=>
   obtain⟨led,rfl,rfl⟩:=hr;have hS:(s.heap.push (p6 led)).get? s.heap.objs.size=Ya (p6 led):=Y1 _ rfl;have hT:Shared.TypeIs {s with heap:=s.heap.push (p6 led)} (.ref s.heap.objs.size) "set":=⟨_,hS,rfl⟩;have k1:=PySem.F.called_set.init.lookup;have k2:=PySem.F.called_set.init.bind (.ref s.heap.objs.size)
   repeat(any_goals(first|assumption|wp_step))
   refine pC (wW (R:=wants (λr s2=>r= .none/\∃h' tk,s2={s with heap:=h',toks:=tk}/\h'.SetOf (strKind prog w) s.heap.objs.size (λk=>(mG [] (l.map (·.1))).any (· ==k)) (mG [] (l.map (·.1))).length/\∀b o,s.heap.get? b=Ya o->h'.get? b=Ya o) E) PySem.F.called_set.init.plain PySem.F.entry_set_init (check_set_init_1 hT ?_)) λr2 s2 hr2=>?_
   .exact ZoK (by simp[hh]) hl hb led λh' tk a b=>⟨rfl,h',tk,rfl,a,b⟩
   .cases r2 with
    |error e=>exact hr2|ok f2=>cases f2 with
     |ret r=>
      obtain⟨rfl,h',tk,rfl,a,b⟩:=hr2
      repeat(any_goals(first|assumption|wp_step))
      exact h _ _ a b
     |_=>exact hr2.elim
  |_=>exact hr.elim
noncomputable def KR(X:Cx)(p:Ys)(n:Nat):HO:=.ext λh=>∃S,h.SetOf (strKind X.prog X.w) p S n
section
variable {X:Cx} {a:Expr} {p p2 q pos:aP} {f:E3}
theorem Zjm:∀{x:List D} {ts:List (List Nat)},jd x=Ya ts->ts.length=x.length
 |[],ts,h=>by cases h;rfl|.str y::x,ts,h=>by have h:(jd x).map (y:: ·)=Ya ts:=h;obtain⟨r,hr,rfl⟩:=Nm.mp h;rw[Yk,Yk,Zjm hr]
 | .non::_,_,h=>nomatch h|.bl _::_,_,h=>nomatch h|.int _::_,_,h=>nomatch h|.tup _::_,_,h=>nomatch h
 | .a_ _::_,_,h=>nomatch h|.ref _::_,_,h=>nomatch h
theorem ZoJ(hc:X.calm=true):_L2.cN X (.type "set") (λxs H Q=>∃b ys sts,xs=[.ref b]/\bD X.K H b ys/\(∀us,Vals ys us->∃l:List (aj×eG),us=jT l/\l.map (·.1)=sts)/\sts.length<=20/\∀p,H p=Yj->Q (.ref p) (upd H p (KR X p (mG [] sts).length))):=by
 intro pins s σ H xs us Q I r h;obtain⟨b,ys,sts,rfl,hq,hi,hl,q⟩:=h;obtain⟨u,rfl,ru⟩:=vals1 r;cases ru;obtain⟨its,rv,pl,hz⟩:=I.list hq;obtain⟨l,rfl,rfl⟩:=hi its rv;rw[Yw]at hl;refine Zo7 (I.ok.hd hc) pl.isList hl λh' tk hS hk=>?_;refine⟨.ref s.heap.objs.size,_,I.laid (t':=tk) (o:=KR X s.heap.objs.size (mG [] (l.map (·.1))).length) hk (Yo _) ⟨⟨_,hS⟩,?_,?_⟩,rfl,q _ (I.hok.fresh (Yo _))⟩
 .obtain⟨o,_,_,_,ho,_⟩:=hS;exact⟨o,ho⟩
 .intro _ _ z kk;obtain⟨S,o,es,ep,t,ho,rest⟩:=z;exact⟨S,o,es,ep,t,kk o ho,rest⟩
theorem Zpf:_L2.cN X (.builtin "len") (λxs H Q=>∃p n,xs=[.ref p]/\H p=Ya (KR X p n)/\n<=20/\Q (.int (n:Int)) H):=by intro pins s σ H xs us Q I r h;obtain⟨p,n,rfl,hp,hn,q⟩:=h;obtain⟨u,rfl,ru⟩:=vals1 r;cases ru;obtain⟨⟨S,o,es,ep,t,ho,hex,hd,_,_,_,hf,hsz⟩,_⟩:=I.hok p _ hp;subst hsz;refine call_len_set ho hex hd hf (by omega) ?_;exact⟨.int (es.size:Int),H,(I.tok _).tok _,⟨_,rfl⟩,q⟩
theorem TF:∀(xs acc:List (List Nat)),(mG (acc.map λt=>(⟨t.toArray⟩:aj)) (xs.map λt=>(⟨t.toArray⟩:aj))).length=(unlike acc xs).length
 |[],acc=>Yw ..|x ::r,acc=>by
  have e:(acc.map λt=>(⟨t.toArray⟩:aj)).any (· ==(⟨x.toArray⟩:aj))=acc.contains x:=by
   induction acc with
   |nil=>rfl|cons y acc ih=>
    rw[Yv,jY,O1,ih];congr 1;by_cases c:y=x
    .subst c;simp
    .have:(⟨y.toArray⟩:aj)≠⟨x.toArray⟩:=λz=>c (by injection z with z;simpa using congrArg z8 z)
     rw[beq_eq_false_iff_ne.mpr this,beq_eq_false_iff_ne.mpr (bT c)]
  show(mG (if(acc.map λt=>(⟨t.toArray⟩:aj)).any (· ==(⟨x.toArray⟩:aj))then _ else _) _).length=(unlike (if acc.contains x then acc else acc++[x]) r).length;rw[e];by_cases c:acc.contains x=true
  .rw[if_pos c,if_pos c];exact TF r acc
  .rw[if_neg c,if_neg c];have:=TF r (acc++[x]);rw[pI]at this;exact this
theorem Zh8:∀(xs acc:List (List Nat)),(unlike acc xs).length<=acc.length+xs.length
 |[],acc=>lU _ _|x::r,acc=>by
  show(unlike (if acc.contains x then acc else acc++[x]) r).length<=_;have h:=Zh8 r (if acc.contains x then acc else acc++[x]);have k:(if acc.contains x then acc else acc++[x]).length<=acc.length+1:=by
   by_cases c:acc.contains x=true
   .rw[if_pos c];omega
   .rw[if_neg c,Yl,lQ];exact Yo _
  rw[Yk];omega
theorem ZpG(hm:X.mg "len" =Yj)(hm2:X.mg "set" =Yj)(h:C3 X a f)(hc:autoParam (X.calm=true) qA)(hg:autoParam (Gl X "len") qA)(hg2:autoParam (Gl X "set") qA)(hs:autoParam (Yq [a] X.env=(false,aF a X.env)::Yq [] X.env) qA)(hs2:autoParam (Yq [.Call (.Name "set" p2) [a] [] q] X.env=(false,aF (.Call (.Name "set" p2) [a] [] q) X.env)::Yq [] X.env) qA)(h1:autoParam ((bK q (Yq [] X.env)).any (·.1)=false) qA)(h2:autoParam ((bK pos (Yq [] X.env)).any (·.1)=false) qA):
  C3 X (.Call (.Name "len" p) [.Call (.Name "set" p2) [a] [] q] [] pos) (aG Zok (Zb f Zg)):=
 (JP (r:=λxs H Q=>∃p n,xs=[.ref p]/\H p=Ya (KR X p n)/\n<=20/\Q (.int (n:Int)) H) Zpf hg hm eV (oJ (ZjR (ZoJ hc) hg2 hm2 (by decide +kernel) (Zc h Zf hs) (by decide) (by decide) hs h1) xY hs2) (by decide) (by decide) hs2 h2).imp λσ H Q ak=>by
  obtain⟨ι,M,env,S,E,h⟩:=ak;obtain⟨ds,M1,e1,h⟩:=Zn.bind h;refine⟨ι,M,env,S,E,?_⟩;rw[e1];intro vs H1 ι1 x1 S1 r1
  match ds,h,r1 with
  |[],h,_=>exact h.elim|d1::d2::r,h,_=>cases d1<;>exact h.elim|[d],h,r1=>
   cases d with
   |ref n=>
    obtain⟨xs,hn,h⟩:=RZ h;obtain⟨d,hd,h⟩:=Gb h;obtain⟨hl,h⟩:=Ge h;obtain⟨ts,hts,rfl⟩:=Nm.mp hd;obtain⟨v,ws,rfl,rv,Tz⟩:=r1;obtain⟨p,hp,rfl⟩:=rv.e_;obtain⟨us,e2,r2⟩:=S1.obj n _ p hn hp;rw[show ws=[]from Tz];have tl:ts.length<=20:=by rw[Zjm hts];exact hl
    refine⟨p,us,ts.map λt=>(⟨t.toArray⟩:aj),rfl,.inl (.inl e2),λits rr=>SX hts r2 rr,by rw[Yw];exact tl,λz hz=>?_⟩;have e3:(mG [] (ts.map λt=>(⟨t.toArray⟩:aj))).length=(unlike [] ts).length:=TF ts [];have l3:(unlike [] ts).length<=20:=Yp (Zh8 ts []) (by rw[DK,tV];exact tl);refine⟨z,_,rfl,fY,by rw[e3];exact l3,?_⟩;rw[e3];exact h _ _ ι1 (x1.trans (Loose.ext (.inl hz))) (S1.other (.inl hz) (S1.fresh hz)) Rep.int
   |_=>exact h.elim
end
section
variable {prog:aZ} {w:aU} {A:bj} {E:Yd->Yf->Prop} {s:Yf} {a:Ys} {tk:eG}
theorem Zoj{R:δ->Yd->Prop}{T:List (aj×δ)}{k:aj}{Q:Bool->Yf->Prop}(h:pK R s.heap a T)(q:Q (mU k T).isSome {s with toks:=s.toks+1}):Y8 (ao prog w) A (Ie (.ref a) (.str k tk)) Q E s:=by
 unfold Ie
 try with_reducible refine h_ ?_
 refine Yc (Xf (sI h) PySem.F.slot_dict_contains.lookup ?_);show Y8 _ _ (if(Ya (Value.builtin "dict.__contains__")==Ya Value.none)=true then _ else _) _ E s;rw[if_neg (by rw[beq_builtin_none];exact oA)];refine Yc (wpAny_callSpecialUnlessNone?_slot (name:=lV "__contains__") (sI h) ZQ
  (u_ ZQ (sI h) PySem.F.entry_dict_contains ?_ (args_dict_contains _ _)))
 show Y8 _ _ (vm a (.str k tk)>>=_) _ _ s;refine Yc (Tv h (λd v e _=>?_) λe=>?_)
 .rw[e]at q;show Y8 _ _ (ret (.bool true)) _ _ _;exact Yn ⟨_,rfl,tQ q⟩
 .rw[e]at q;show Y8 _ _ (Builtin.Dict.pendingKey? a (.str k tk)>>=_) _ _ _;exact Yc (wpAny_pendingKey_other h.1 (Yn ⟨_,rfl,tQ q⟩))
theorem Zpp{R:δ->Yd->Prop}{T:List (aj×δ)}{k:aj}{d:δ}(h:pK R s.heap a T)(e:mU k T=Ya d)(h1:∀v,R d v->Q v {s with toks:=s.toks+1}):Y8 (ao prog w) A (pG (.ref a) (.str k tk)) Q E s:=by
 unfold pG
 try with_reducible refine h_ ?_
 refine Yc (N7 (sI h) (by decide) ?_);refine Yc (wV (name:=lV "__getitem__") (sI h) ZS
  (u_ ZS (sI h) PySem.F.entry_dict_getitem ?_ (PySem.F.args_dict_getitem_2 _ _)))
 show Y8 _ _ (vm a (.str k tk)>>=λo=>_) _ _ s;refine Yc (Tv h (λd' v e' r=>?_) λe'=>by rw[e]at e';cases e');rw[e]at e';cases e';exact Yn ⟨v,rfl,Yn (h1 v r)⟩
end
section
variable {X:Cx} {e:Expr} {x:aj} {a:Ys} {t:jO} {npos pos:aP} {g:E3}
def TJ(t:jO)(a:Ys)(p:Bool->Bool):R2:=λx y H Q=>y= .ref a/\∃k,x= .str ⟨k.toArray⟩/\Q (.bl (p (dX k t).isSome)) H
theorem Zn1(ht:lu X.K a t):bh X (fX .In) (TJ t a λb=>b):=by intro pins s σ H x y v u Q I rx ry h;obtain⟨rfl,k,rfl,q⟩:=h;obtain⟨tk,rfl⟩:=rx;obtain rfl:u= .ref a:=ry;show Y8 _ _ ((do return Value.bool (←Ie (.ref a) (.str ⟨k.toArray⟩ tk))):jW Yd) _ _ _;refine Yc (Zoj (ht.at I.bN) (Yn ⟨.bl (mU (⟨k.toArray⟩:aj) (BP t)).isSome,H,I.tok _,rfl,?_⟩));rw[BR];exact q
theorem Zmi(ht:lu X.K a t):bh X (fX .NotIn) (TJ t a λb=>!b):=by intro pins s σ H x y v u Q I rx ry h;obtain⟨rfl,k,rfl,q⟩:=h;obtain⟨tk,rfl⟩:=rx;obtain rfl:u= .ref a:=ry;show Y8 _ _ ((do return Value.bool (!(←Ie (.ref a) (.str ⟨k.toArray⟩ tk)))):jW Yd) _ _ _;refine Yc (Zoj (ht.at I.bN) (Yn ⟨.bl (!(mU (⟨k.toArray⟩:aj) (BP t)).isSome),H,I.tok _,rfl,?_⟩));rw[BR];exact q
theorem TQ{p:Bool->Bool}{q:D->Store->R3 D}(hq:∀d M,q d M=(match d with| .str k=>.ok (.bl (p (dX k t).isSome)) M|_=>.bad))(σ:St)(H:Hp)(Q:VK)(h:kZ X.K (e1 q g) σ H Q):Af (TJ t a p) (kZ X.K g) (tC (.ref a)) σ H Q:=by
 obtain⟨ι,M,env,S,E,h⟩:=h;obtain⟨d,M1,e1,h⟩:=Zn.bind h;refine⟨ι,M,env,S,E,?_⟩;rw[e1];intro y H1 ι1 x1 S1 r1;rw[hq]at h;cases d with
 |str k=>
  cases r1.str_inv
  exact⟨rfl,k,rfl,h _ H1 ι1 x1 S1 Rep.bl⟩
 |_=>exact h.elim
section
variable (hm:X.mg x=Ya (.ref a)) (ht:lu X.K a t) (he:C3 X e g)
include hm ht he
theorem Ztd(hg:autoParam (Gl X x) qA)(hd:autoParam ((x==("__debug__":aj))=false) qB)(hb:autoParam (w6 .In (.Name x npos)=false) qA):C3 X (.Compare e [.In] [.Name x npos] pos) (e1 (uE t) g):=(Zn5 (Zn1 ht) he (Ad (v:=.ref a) hg hm rfl hd) hb).imp (TQ λd _=>by cases d<;>rfl)
theorem Zry(hg:autoParam (Gl X x) qA)(hd:autoParam ((x==("__debug__":aj))=false) qB)(hb:autoParam (w6 .In (.Name x npos)=false) qA):CT X (.Compare e [.In] [.Name x npos] pos) (e1 (uE t) g):=(Q6 (Zn1 ht) he (Ad (v:=.ref a) hg hm rfl hd) hb).imp λσ H Q ak=>by obtain⟨ι,M,env,S,E,h⟩:=ak;exact TQ (λd _=>by cases d<;>rfl) σ H _ ⟨ι,M,env,S,E,Kd h⟩
theorem Zlc(hg:autoParam (Gl X x) qA)(hd:autoParam ((x==("__debug__":aj))=false) qB)(hb:autoParam (w6 .NotIn (.Name x npos)=false) qA):CT X (.Compare e [.NotIn] [.Name x npos] pos) (e1 (KN t) g):=(Q6 (Zmi ht) he (Ad (v:=.ref a) hg hm rfl hd) hb).imp λσ H Q ak=>by obtain⟨ι,M,env,S,E,h⟩:=ak;exact TQ (λd _=>by cases d<;>rfl) σ H _ ⟨ι,M,env,S,E,Kd h⟩
end
theorem ZrI{te:TE}(hm:X.mg x=Ya (.ref a))(ht:lu X.K a t)(he:PE X e te)(hs:JZ e)(hg:Gl X x)(hd:(x==("__debug__":aj))=false):
  PE X (.Subscript (.Name x npos) e pos) (λσ H Q=>te σ H λy H1=>∃k i,y= .str ⟨k.toArray⟩/\dX k t=Ya i/\Q (.int i) H1):=by
 intro pins s σ H Q I h;refine Zs9 PySem.F.slot_dict_getitem.lookup hs (aH (Ad (v:=.ref a) (u:=.ref a) hg hm rfl hd pins s σ H (λv H'=>v= .ref a/\H'=H) I ⟨rfl,rfl⟩) λu s1 ak=>?_);obtain⟨v,H1,I1,r1,rfl,rfl⟩:=ak;obtain rfl:u=Value.ref a:=r1;refine aH (he pins s1 σ H1 _ I1 h) λiv s2 Gr=>?_;obtain⟨y,H2,I2,ry,k,i,rfl,et,q⟩:=Gr;obtain⟨tk,rfl⟩:=ry;have T2:=ht.at I2.bN;refine⟨sI T2,Zpp T2 (d:=i) (by rw[BR,et]) λv rv=>?_⟩;obtain⟨t',rfl⟩:=rv;exact⟨.int i,H2,I2.tok _,⟨t',rfl⟩,q⟩
theorem Zsv(hm:X.mg x=Ya (.ref a))(ht:lu X.K a t)(he:C3 X e g)(hs:JZ e:=by exactλ_ _=>rfl)(hg:autoParam (Gl X x) qA)(hd:autoParam ((x==("__debug__":aj))=false) qB):
  C3 X (.Subscript (.Name x npos) e pos) (e1 (Gs t) g):=(ZrI hm ht he hs hg hd).imp λσ H Q ak=>by
 obtain⟨ι,M,env,S,E,h⟩:=ak;obtain⟨d,M1,e1,h⟩:=Zn.bind h;refine⟨ι,M,env,S,E,?_⟩;rw[e1];intro y H1 ι1 x1 S1 r1;cases d with
 | str k=>
  cases r1.str_inv
  cases et:dX k t with
  |none=>have h:Zn X.K H ι Q (match dX k t with|some i=>.ok (.int i) M1|none=>.bad):=h;rw[et]at h;exact h.elim
  |some i=>have h:Zn X.K H ι Q (match dX k t with|some i=>.ok (.int i) M1|none=>.bad):=h;rw[et]at h;exact⟨k,i,rfl,et,h _ H1 ι1 x1 S1 Rep.int⟩
 |_=>exact h.elim
end
section
variable {X:Cx}
theorem KY(hu:X.A.units+80<iR):bh X (fX .NotEq) (r2 X.K sO):=by
 intro pins s σ H x y v u Q I rx ry h;obtain⟨ι,M,a,b,S,ra,rb,h⟩:=h;have hu1:X.A.units<iR:=by omega
 unfold sO at h;split at h
 next n m=>
  split at h
  next z h1 h2=>
   obtain⟨p,vs,its,_,eu,t,r1,v1⟩:=Kl I S h1 ra rx;obtain⟨q,ws,its2,_,ev,t',r2,v2⟩:=Kl I S h2 rb ry;cases z with
   |nil=>exact(Km (k:=true) hu I S ra rb rx ry (by simp only[Al,h1,h2];rfl)).2 X.prog X.w X.xe _ ⟨.bl false,H,I,rfl,Zn.ok h S Rep.bl⟩|cons d ds=>rw[eu,ev];have hz:(its.toArray.size !=its2.toArray.size)=true:=bne_iff_ne.mpr λe=>absurd ((nA r1 v1).symm.trans (e.trans (nA r2 v2))) (by simp);exact Ygd t t' hz hu1 X.prog X.w X.xe _ ⟨.bl true,H,I,rfl,Zn.ok h S Rep.bl⟩
  .exact h.elim
 .exact h.elim
end
end _L3
namespace PySem.W
open PySem PySem.Spec PySem.Calls PyProof.Rows Builtin Builtin.ObjectAttr
section
variable {prog:aZ} {w:aU} {K:Frag} {x D:Ys} {name:aj} {v:Yd}
theorem Zw8{A:bj}{R:n8->Yf->Prop}{s:Yf}{tk:eG}(hb:mroIn K D (.type "BaseException")=Ya true)(X:K.In s.heap)(p:yH x D s.heap)(_L3:Looks (ao prog w) s.heap (find (.ref x) (.ref D) name) (.value v))(hq:R (.ok (.ret v)) s):jt (ao prog w) A (.call (.builtin "BaseException.__getattribute__") ⟨[.ref x,.str name tk],[]⟩) R s:=by
 obtain⟨hh,gg,dd,tt,oo⟩:=s;have L0:=p.ty (ao prog w);have L1:=looks_mroIn (M:=ao prog w) X hb;have hk:builtinKind "BaseException.__getattribute__" =Ya .slot:=by decide +kernel
 have hs:splitId "BaseException.__getattribute__" =Ya ("BaseException","__getattribute__"):=by decide +kernel
 have hz:=F.args_bexc_ga (.ref x) (.str name tk);refine wW F.excAttr_ValueError.ga.plain F.entry_bexc_ga ?_;simp only[Dk,hk,hs];refine Yc ?_;unfold Oo
 repeat lk
 exact hq
theorem Ack{A:bj}{E:Yd->Yf->Prop}{s:Yf}{Q:Yd->Yf->Prop}{b:Bool}(hg:findIn K (.ref D) "__getattribute__" =Ya (Ya (.builtin "BaseException.__getattribute__")))(hg2:findIn K (.ref D) "__getattr__" =Ya Yj)(hb:mroIn K D (.type "BaseException")=Ya true)(X:K.In s.heap)(p:yH x D s.heap)(L:Looks (ao prog w) s.heap (find (.ref x) (.ref D) name) (.value v))(hv:handedIn v=true)(hq:Q v {s with toks:=s.toks+1}):Y8 (ao prog w) A (Dw (.ref x) name b) Q E s:=by obtain⟨hh,gg,dd,tt,oo⟩:=s;have L0:=p.ty (ao prog w);have L1:=looks_findIn (M:=ao prog w) X hg;have _L2:=looks_findIn (M:=ao prog w) X hg2;have f3:=F.excAttr_ValueError.ga.bind (.ref x);unfold Dw getAttrBy;refine Yc (wpAny_mkText (h_ (Yc (L0.at (Yc (L1.at ?_))))));show Y8 _ _ (Xi _ _ _ _ _ _) _ _ _;unfold Xi hookBefore callGetattribute;refine Yc (_L2.at (Yc (Oe (h_ ?_))));rw[show(b&&onTheHeap (.builtin "BaseException.__getattribute__"))=false from by cases b<;>rfl,if_neg (by decide)];show Y8 _ _ (boundAndCalled _ _ _) _ _ _;unfold boundAndCalled;rw[f3];refine Yc (Yn ?_);refine pF (Zw8 hb X p L ?_);exact handed_on hv hq
theorem Ab5{M:Model}{h:au}{o:aD}{vs:Array Yd}{dx:Ys}{m:aj->Option Yd}{cd:ClassData}(X:K.In h)(hx:h.get? x=Ya o)(hc:o.cls= .ref D)(hd:o.data= .fields vs)(hdx:o.dict=Ya dx)(hn:h.Ns1 dx m)(hm:m name=Ya v)(cl:clsIn K D=Ya cd)(hh:cd.hasDict=true)(hf:findIn K (.ref D) name=Ya Yj):Looks M h (find (.ref x) (.ref D) name) (.value v):=by
 refine(looks_findIn (M:=M) X hf).andThen ((show Looks M h (getOf Yj) Yj from .now).andThen ((show Looks M h (dataDescriptor? Yj Yj) Yj from .now).andThen ?_));have L:=looks_clsIn (M:=M) X cl;have own:Looks M h (inOwnDict name (.ref x)) (Ya v):=by intro A Q E s k q;obtain⟨o2,es,ep,e1,e2,e3,e4,e5⟩:=hn;refine Yc (Yc (Ob (k _ _ hx) ?_));rw[hd];unfold instanceDict;refine Yc (Ob (k _ _ hx) ?_);rw[hc];refine Yc (L A _ E s k ?_);rw[hh,hdx];refine Yn (a:=Ya dx) ?_;refine wpAny_nsGet ⟨o2,es,ep,k _ _ e1,e2,e3,λ_=>rfl⟩ ?_;rw[e5 name,hm];exact q
 exact own.andThen (Looks.tag .now)
end
end PySem.W
namespace PySem.W
open PySem PySem.Spec PySem.Calls PyProof.Rows Builtin Builtin.ObjectAttr
section
variable {prog:aZ} {w:aU} {K:Frag} {x D CL:Ys} {name:aj} {v:Yd} {cd:ClassData}
noncomputable abbrev p7:List Yd:=[.type "ValueError",.type "Exception",.type "BaseException",.type "object"]
theorem ZuP{M:Model}{A:bj}{E:Yd->Yf->Prop}{Q:Unit->Yf->Prop}{s:Yf}{a b:Yd}(X:K.In s.heap)(p:yH x D s.heap)(ho:mroIn K D (.type "object")=Ya true)(hq:Q () s):
  Y8 M A (Dk "object.__setattr__" ⟨[.ref x,a,b],[]⟩) Q E s:=by
 obtain⟨h,g,d,t,os⟩:=s;have L0:=p.ty M;have _L3:=looks_mroIn (M:=M) X ho;have hz:=F.store_ValueError.args (.ref x) a b;simp only[Dk,F.store_ValueError.kind,F.store_ValueError.split];refine Yc ?_;unfold Oo
 repeat lk
 exact hq
theorem Zxr{A:bj}{R:n8->Yf->Prop}{s:Yf}{tk:eG}{o:aD}{vs:Array Yd}(X:K.In s.heap)(hx:s.heap.get? x=Ya o)(hc:o.cls= .ref D)(hd:o.data= .fields vs)(hdn:o.dict=Yj)(cl:clsIn K D=Ya cd)(hh:cd.hasDict=true)(hm:cd.mro= .ref D:: .ref CL::p7)(hf:findIn K (.ref D) name=Ya Yj)(ho:mroIn K D (.type "object")=Ya true)(hq:∀h' tk',h'.get? x=Ya {o with dict:=Ya s.heap.objs.size}->h'.Ns1 s.heap.objs.size (λy=>if y=name then Ya v else Yj)->(∀b ob,b≠x->s.heap.get? b=Ya ob->h'.get? b=Ya ob)->R (.ok (.ret .none)) {s with heap:=h',toks:=tk'}):
  jt (ao prog w) A (.call (.builtin "object.__setattr__") ⟨[.ref x,.str name tk,v],[]⟩) R s:=by
 have p:yH x D s.heap:=⟨o,hx,hc⟩;refine wW F.store_ValueError.slot.plain F.store_ValueError.entry (ZuP X p ho ?_);obtain⟨h,g,d,t,os⟩:=s;have L0:=p.ty (ao prog w);have _L2:=looks_findIn (M:=ao prog w) X hf;have L5:=looks_clsIn (M:=ao prog w) X cl;have L4:Looks (ao prog w) h (mroOf (.ref D)) cd.mro:=L5.andThen .now;have pass:refuseLoop (.ref x) "__setattr__" cd.mro=pure ():=by rw[hm,refuseLoop_ref,refuseLoop_ref];exact F.store_ValueError.passes _
 unfold Builtin.«object.__setattr__»;refine Yc ?_;rw[refuse_eq];refine Yc (L0.at (Yc (L4.at ?_)));rw[pass];refine Yn (Yc (Yn (Yc (L0.at (Yc (_L2.at (Yc (Yn ?_))))))));show Y8 _ _ (storeInOwnDict _ _ _ _ _ _) _ _ _;unfold storeInOwnDict ownDictForStores instanceDict
 repeat(first|(with_reducible refine zx hx ?_;rw[hc])|with_reducible refine Looks.at (by assumption) ?_|wp_step)
 rw[hdn,hd];have hx1:(h.push {cls:=.type "dict",data:=.dict #[]}).get? x=Ya o:=Yi _ hx;have hxs:x≠h.objs.size:=dM (Y0 hx);refine Yc (wpAny_alloc' (Yc (wpAny_update' hx1 (Yn ?_))));have g1:((h.push {cls:=.type "dict",data:=.dict #[]}).update x λo=>{cls:=o.cls,dict:=Ya h.objs.size,data:=o.data,slots:=o.slots}).get? h.objs.size=Ya {cls:=.type "dict",data:=.dict #[]}:=(XR _ _ _ _ hxs.symm).trans (Pa rfl rfl);have fr:=(Heap.get?_some_iff.mp hx).2;have g2:((h.push {cls:=.type "dict",data:=.dict #[]}).update x λo=>{cls:=o.cls,dict:=Ya h.objs.size,data:=o.data,slots:=o.slots}).get? x=Ya {o with dict:=Ya h.objs.size}:=by refine xJ _ hx1 ?_;obtain⟨oc,od,oa,osl⟩:=o;cases oa<;>first|rfl|exact fr
 show Y8 _ _ (storeInDict h.objs.size (.str name tk) name v) _ _ _;unfold storeInDict newKeyGuard;refine Yc (Yn (Yc (wpAny_nsSet1 (Ykv ⟨_,#[],_,g1,rfl,λe he=>absurd he (by simp),λ_=>rfl⟩) λh' hn' hs=>?_)));obtain⟨oD,esD,epD,hoD,hdD,hcD⟩:=hn'.count (Within.cons name v Within.nil);refine Yc (Xc hoD (by rw[hdD];exact Xd (Yp hcD (by rw[Yk,DK,q8];omega))) ?_)
 wp_walk
 exact hq h' _ ((hs.2 x hxs).trans g2) hn' λb ob hb q=>(hs.2 b (dM (Y0 q))).trans ((XR _ _ _ _ hb).trans (Yi _ q))
theorem Acl{A:bj}{E:Yd->Yf->Prop}{s:Yf}{Q:Unit->Yf->Prop}{o:aD}{vs:Array Yd}(X:K.In s.heap)(hx:s.heap.get? x=Ya o)(hc:o.cls= .ref D)(hd:o.data= .fields vs)(hdn:o.dict=Yj)(cl:clsIn K D=Ya cd)(hh:cd.hasDict=true)(hm:cd.mro= .ref D:: .ref CL::p7)(hsa:findIn K (.ref D) "__setattr__" =Ya (Ya (.builtin "object.__setattr__")))(hf:findIn K (.ref D) name=Ya Yj)(ho:mroIn K D (.type "object")=Ya true)(hq:∀h' tk',h'.get? x=Ya {o with dict:=Ya s.heap.objs.size}->h'.Ns1 s.heap.objs.size (λy=>if y=name then Ya v else Yj)->(∀b ob,b≠x->s.heap.get? b=Ya ob->h'.get? b=Ya ob)->Q () {s with heap:=h',toks:=tk'}):
  Y8 (ao prog w) A (Ii (.ref x) name v) Q E s:=by
 obtain⟨h,g,d,t,os⟩:=s;have p:yH x D h:=⟨o,hx,hc⟩;have L0:=p.ty (ao prog w);have L1:=looks_findIn (M:=ao prog w) X hsa;have f3:=F.store_ValueError.slot.bind (.ref x);unfold Ii callSpecial? specialOf;refine Yc (wpAny_mkText (Yc (Yc (Yc (L0.at (L1.at ?_))))));refine h_ (Yc ?_);rw[f3];refine Yn (Yc (pF (Zxr X hx hc hd hdn cl hh hm hf ho λh' tk' a b c=>?_)));exact Yn (Yn (hq h' tk' a b c))
end
end PySem.W
namespace PySem.W
open PySem PySem.Spec PySem.Calls PyProof.Rows
section
variable {prog:aZ} {w:aU} {A:bj} {E:Yd->Yf->Prop} {h:au} {g:Array GenState} {d:Drawn} {t:Nat} {os:OsState}
variable {nm q:aj} {C N:Ys} {bs bm:List Yd} {hdct:Bool} {sn:List aj} {sub:List Yd} {ab:Bool} {col:Option Bool} {dd:Option Ys} {k0 k1 k2 k3 k5:Option Yd}
theorem Zxk(T:OwnTail h p7 bm){mN:aj->Option Yd}{rest:List Yd}{fI:Ys}{oI:aD}{Q:Fin->Yf->Prop}(hC:h.get? C=Ya (vf nm q C N bs bm hdct sn sub ab col dd k0 k1 k2 k3 k5 "ValueError.__new__"))(hn:h.Ns N mN)(hi:mN "__init__" =Ya (.ref fI))(hfI:h.get? fI=Ya oI)(hfc:oI.cls= .type "function")(hrest:rest.length<=bF)(hq:∀h' e,Heap.MadeExcOf h h' e (.ref C) rest->Y8 (ao prog w) A (call (.ref fI) (.ref e::rest)) (λr s'=>r= .none/\Q (.done (.ret (.ref e))) s') E ⟨h',g,d,t,os⟩):
  Y8 (ao prog w) A (Builtin.«type.__call__» ⟨.ref C::rest,[]⟩) Q E ⟨h,g,d,t,os⟩:=by
 have Fb:=ZR;have hB:p7.contains (.type "ValueError")=true:=by decide
 repeat(first
  |with_reducible refine zx hC ?_
  |with_reducible refine wpAny_madeBy_exc hC ?_
  |wp_step)
 refine codeAny_call_builtin_code (Js _ Fb.quiet) (wpAny_check_new_subU Fb hB T hC (codeAny_exc_new_subU Fb hB Fb T hC ?_ hrest));show Y8 _ _ _ _ _ _;generalize ht:({cls:=.type "tuple",data:=.seq rest.toArray}:aD)=tup;generalize he:({cls:=.ref C,data:=.fields #[.ref h.objs.size,.none,.none,.none,.bool false,.none]}:aD)=ex;have up:∀b o,h.get? b=Ya o->((h.push tup).push ex).get? b=Ya o:=λb o z=>Yi _ (Yi _ z);have C1:=up _ _ hC;have ge:((h.push tup).push ex).get? (h.objs.size+1)=Ya ex:=by refine Pa (by rw[vG]) ?_;rw[←he];rfl
 have ec:ex.cls= .ref C:=by rw[←he]
 have cC:(Value.ref C::bm).contains (.ref C)=true:=by simp
 unfold Oo
 repeat(first
  |(with_reducible refine zx ge ?_;rw[ec])
  |(with_reducible refine W6 C1 ?_;rw[cC])
  |wp_step)
 show Y8 _ _ (Ol (.ref C) _) _ _ _;refine wpAny_typeLookup_tail C1 (hn.keeps up) (T.keeps up) Fb.mroIs Fb.init.lookup ?_;rw[hi];refine h_ (Yc ?_);unfold bindSpecial;refine Yc (HX (T:="function") ⟨_,up _ _ hfI,hfc⟩ ?_);rw[if_pos (by decide)];refine Yn (Yc (fj (hq _ (h.objs.size+1) ⟨up,Iw (vI _),h.objs.size,?_,Iw (Yo _),?_⟩) (λr s' z=>?_) λ_ _ z=>z))
 .rw[ge,←he]
 .rw[ht];exact Yi _ (Pa rfl (by rw[←ht];rfl))
 .obtain⟨rfl,z⟩:=z
  wp_walk
  exact z
theorem Ab6(T:OwnTail h p7 bm){mN:aj->Option Yd}{rest:List Yd}{fI:Ys}{oI:aD}{Q:Yd->Yf->Prop}(hC:h.get? C=Ya (vf nm q C N bs bm hdct sn sub ab col dd k0 k1 k2 k3 k5 "ValueError.__new__"))(hn:h.Ns N mN)(hi:mN "__init__" =Ya (.ref fI))(hfI:h.get? fI=Ya oI)(hfc:oI.cls= .type "function")(hrest:rest.length<=bF)(hq:∀h' e,Heap.MadeExcOf h h' e (.ref C) rest->Y8 (ao prog w) (A.under (.builtin "type.__call__" ⟨.ref C::rest,[]⟩)) (call (.ref fI) (.ref e::rest)) (λr s'=>r= .none/\Q (.ref e) s') E ⟨h',g,d,t,os⟩):
  Y8 (ao prog w) A (call (.ref C) rest) Q E ⟨h,g,d,t,os⟩:=by
 have f1:=tc_lookup;have f2:=tc_bind (.ref C);have hT:(⟨h,g,d,t,os⟩:Yf).TypeIs (.ref C) "type":=⟨_,hC,rfl⟩;refine pF (N_ ?_);show Y8 _ _ (callAny (.ref C) _) _ _ _
 repeat(any_goals(first
  |assumption
  |with_reducible refine zx hC ?_
  |wp_step))
 exact⟨rfl,codeAny_call_builtin_at (Js _ (by decide +kernel)) entry_typeCall (wpAny_check_type_call_sub hC (Zxk T hC hn hi hfI hfc hrest hq))⟩
theorem Ab0{M:Model}{s:Yf}{env:cH}{x:jW Yd}{Q:Flow->Yf->Prop}(hbase:bm.contains (.type "BaseException")=true)(hh:A.handled=Yj)(hx:Y8 M A x (λv s₁=>∃e dx vs sl,v= .ref e/\s₁.heap.get? C=Ya (vf nm q C N bs bm hdct sn sub ab col dd k0 k1 k2 k3 k5 "ValueError.__new__")/\
   s₁.heap.get? e=Ya {cls:=.ref C,dict:=dx,data:=.fields vs,slots:=sl}/\vs[1]?=Ya .none/\E (.ref e) s₁) E s):Y8 M A (raiseStmt env (Ya x) Yj) Q E s:=by
 have cB:(Value.ref C::bm).contains (.type "BaseException")=true:=by rw[O1,hbase,Bool.or_true]
 unfold raiseStmt;refine Yc (fj hx (λv s₁ z=>?_) λ_ _ z=>z);obtain⟨e,dx,vs,sl,rfl,hC,he,h1,hE⟩:=z;obtain⟨hp,g,d,tk,os⟩:=s₁
 repeat(first
  |with_reducible refine zx he ?_
  |with_reducible refine zx hC ?_
  |(with_reducible refine W6 hC ?_;rw[cB])
  |with_reducible refine lO he rfl h1 ?_
  |wp_step)
 exact wpAny_raiseNew_none hh hE
end
end PySem.W
namespace PySem.W
open PySem PySem.Spec PySem.Calls PyProof.Rows
section
variable {prog:aZ} {w:aU} {A:bj} {E:Yd->Yf->Prop} {h:au} {g:Array GenState} {d:Drawn} {t:Nat} {os:OsState}
variable {nm q:aj} {C N:Ys} {bs bm:List Yd} {hdct:Bool} {sn:List aj} {sub:List Yd} {ab:Bool} {col:Option Bool} {dd:Option Ys} {k0 k1 k2 k3 k5:Option Yd}
theorem Ab7(T:OwnTail h p7 bm)(hC:h.get? C=Ya (vf nm q C N bs bm hdct sn sub ab col dd k0 k1 k2 k3 k5 "ValueError.__new__")){e:Ys}{dx:Option Ys}{vs:Array Yd}{sl:Array (Option Yd)}{a:Yd}{R:n8->Yf->Prop}(he:h.get? e=Ya {cls:=.ref C,dict:=dx,data:=.fields vs,slots:=sl})(hs:1<vs.size){tv:Ys}(h0:vs[0]?=Ya (.ref tv))(hq:∀h' t0,h'.get? e=Ya {cls:=.ref C,dict:=dx,data:=.fields (vs.setIfInBounds 0 (.ref t0)),slots:=sl}->(∀b o,b≠e->h.get? b=Ya o->h'.get? b=Ya o)->R (.ok (.ret .none)) ⟨h',g,d,t,os⟩):
  jt (ao prog w) A (.call (.builtin "ValueError.__init__") ⟨[.ref e,a],[]⟩) R ⟨h,g,d,t,os⟩:=by
 have Fb:=ZR;refine wW Fb.init.plain Fb.initEntry (wpAny_check_init_subU Fb T hC he rfl ?_)
 wp_walk
 rw[h0]
 wp_walk
 rw[if_pos (j6 X_ hs)]
 wp_walk
 have g2:=xJ (xP (·.setIfInBounds 0 (Value.ref h.objs.size))) (Yi {cls:=.type "tuple",data:=.seq [a].toArray} he) rfl;exact hq _ h.objs.size g2 λb o hb z=>(mR _ _ (bT hb)).trans (Yi _ z)
theorem Ab8{K:Frag}{CL:Ys}{pl:jW Bool}{Q:Yd×List Yd->Yf->Prop}{s:Yf}(X:K.In s.heap)(hg:specialIn K (.ref CL) "__getattribute__" =Ya (Ya (.builtin "type.__getattribute__")))(hr:readsIn K CL (.type "type")=true)(hf:findCls K (.ref CL) (.type "type") "__init__" =Ya (.val (.builtin "ValueError.__init__")))(hq:Q (.builtin "ValueError.__init__",[]) {s with toks:=s.toks+1}):Y8 (ao prog w) A (getMethod (.ref CL) "__init__" pl) Q E s:=method_cls X hg (cls_value X hr hf (by decide +kernel) hq)
end
end PySem.W
namespace _L3
open PySem PySem.Spec PyProof.Rows _L2
def Gu(e C:Ys)(dd:Option Ys)(h:au):Prop:=∃vs sl tv,h.get? e=Ya {cls:=.ref C,dict:=dd,data:=.fields vs,slots:=sl}/\1<vs.size/\vs[0]?=Ya (.ref tv)/\vs[1]?=Ya .none
noncomputable abbrev fK(e C:Ys)(dd:Option Ys):HO:=.ext (Gu e C dd)
theorem TV{P:aZ}{w:aU}{H:Hp}{h:au}{e C:Ys}{dd:Option Ys}(x:Gu e C dd h):cR P w H h e (fK e C dd):=⟨x,(let⟨_,_,_,q,_⟩:=x;⟨_,q⟩),λ_ _ z k=>let⟨vs,sl,tv,a,b⟩:=z;⟨vs,sl,tv,k _ a,b⟩⟩
section
variable {X:Cx} {pins:List (Ys×aD)} {σ:St} {H:Hp} {s:Yf} {e:Ys} {φ φ':au->Prop} {h':au} {t':Nat}
theorem TX(I:Inv X pins σ H s){b:Ys}(q:s.heap.get? b=Yj):H b=Yj:=by
 cases z:H b with
 |none=>rfl|some u=>obtain⟨o,ho⟩:=Q5 (I.hok b u z);rw[q]at ho;cases ho
theorem ZnH(I:Inv X pins σ H s)(he:H e=Ya (.ext φ))(keep:∀b u,b≠e->s.heap.get? b=Ya u->h'.get? b=Ya u)(ok:∀H',cR X.prog X.w H' h' e (.ext φ')):Inv X pins σ (upd H e (.ext φ')) {s with heap:=h',toks:=t'}:=by
 have nb:∀{b u},H b=Ya u->(∀ψ,u≠ .ext ψ)->b≠e:=λ{b u} q n z=>by rw[z,he]at q;cases q;exact n _ rfl
 have n0:∀{b},H b=Yj->b≠e:=λ{b} q z=>by rw[z,he]at q;cases q
 refine I.un ⟨λb u q n _ _=>keep b u (n0 n) q,λb u q n _ _=>⟨u.slots,keep b u (n0 n) q⟩,λb u q n _=>by rw[Zu (n0 n)];exact n,λb u q _=>?_,λb xs q=>by rw[Zu (nb q (λ_ z=>nomatch z))];exact q,
  λb u xs q=>by rw[Zu (nb q (λ_ z=>nomatch z))];exact q,λb ps q=>⟨#[],by rw[Zu (nb q (λ_ z=>nomatch z)),q];simp⟩⟩ λb u q=>?_
 .by_cases hb:b=e
  .rw[hb];exact(ok H).2.1
  .exact⟨u,keep b u hb q⟩
 .by_cases hb:b=e
  .subst hb;rw[fY]at q;cases q;exact ok _
  .rw[Zu hb]at q;refine(I.hok b u q).stay (λc v hc z=>keep c v ?_ z) (λc z=>by rw[Zu (nb z (λ_ z=>nomatch z))];exact z) λc xs z=>by rw[Zu (nb z (λ_ z=>nomatch z))];exact z
   rcases hc with rfl|hc
   .exact hb
   .exact nb hc (λ_ z=>nomatch z)
theorem Zqc{dx:Ys}{o2:HO}(I:Inv X pins σ H s)(he:H e=Ya (.ext φ))(hdx:s.heap.get? dx=Yj)(keep:∀b u,b≠e->s.heap.get? b=Ya u->h'.get? b=Ya u)(ok:∀H',cR X.prog X.w H' h' e (.ext φ'))(ok2:∀H',cR X.prog X.w H' h' dx o2):
  Inv X pins σ (upd (upd H e (.ext φ')) dx o2) {s with heap:=h',toks:=t'}:=by
 have hd0:=TX I hdx;have nb:∀{b u},H b=Ya u->(∀ψ,u≠ .ext ψ)->b≠e:=λ{b u} q n z=>by rw[z,he]at q;cases q;exact n _ rfl
 have n0:∀{b},H b=Yj->b≠e:=λ{b} q z=>by rw[z,he]at q;cases q
 have nd:∀{b u},H b=Ya u->b≠dx:=λ{b u} q z=>by rw[z,hd0]at q;cases q
 have nh:∀{b u},s.heap.get? b=Ya u->b≠dx:=λ{b u} q z=>by rw[z,hdx]at q;cases q
 refine I.un ⟨λb u q n _ _=>keep b u (n0 n) q,λb u q n _ _=>⟨u.slots,keep b u (n0 n) q⟩,λb u q n _=>by rw[Zu (nh q),Zu (n0 n)];exact n,λb u q _=>?_,λb xs q=>by rw[Zu (nd q),Zu (nb q (λ_ z=>nomatch z))];exact q,
  λb u xs q=>by rw[Zu (nd q),Zu (nb q (λ_ z=>nomatch z))];exact q,λb ps q=>⟨#[],by rw[Zu (nd q),Zu (nb q (λ_ z=>nomatch z)),q];simp⟩⟩ λb u q=>?_
 .by_cases hb:b=e
  .rw[hb];exact(ok H).2.1
  .exact⟨u,keep b u hb q⟩
 .by_cases hd:b=dx
  .subst hd;rw[fY]at q;cases q;exact ok2 _
  .rw[Zu hd]at q;by_cases hb:b=e
   .subst hb;rw[fY]at q;cases q;exact ok _
   .rw[Zu hb]at q;refine(I.hok b u q).stay (λc v hc z=>keep c v ?_ z) (λc z=>by rw[Zu (nd z),Zu (nb z (λ_ z=>nomatch z))];exact z) λc xs z=>by rw[Zu (nd z),Zu (nb z (λ_ z=>nomatch z))];exact z
    rcases hc with rfl|hc
    .exact hb
    .exact nb hc (λ_ z=>nomatch z)
end
structure Gv(K:Yb)(C CL fI:Ys)(f:aj):Prop where
 obj:∃(na q:aj) (N:Ys) (bs bm:List Yd) (hdct:Bool) (sn:List aj) (sub:List Yd) (ab:Bool) (col:Option Bool) (dd:Option Ys) (k0 k1 k2 k3 k5:Option Yd),
  K.lookup C=Ya (vf na q C N bs bm hdct sn sub ab col dd k0 k1 k2 k3 k5 "ValueError.__new__")/\(∀h:au,K.In h->∃mN,h.Ns N mN/\mN "__init__" =Ya (.ref fI))/\∀h:au,K.In h->OwnTail h PySem.W.p7 bm
 cls:∃cd,tM K C=Ya cd/\cd.hasDict=true/\cd.mro= .ref C:: .ref CL::PySem.W.p7
 sa:Y7 K (.ref C) "__setattr__" =Ya (Ya (.builtin "object.__setattr__"))
 nf:Y7 K (.ref C) f=Ya Yj
 mo:tL K C (.type "object")=Ya true
 ga:zp K (.ref CL) "__getattribute__" =Ya (Ya (.builtin "type.__getattribute__"))
 rd:NK K CL (.type "type")=true
 fc:NP K (.ref CL) (.type "type") "__init__" =Ya (.val (.builtin "ValueError.__init__"))
section
variable {X:Cx} {a b o value:Expr} {f x:aj} {p1 p2 p3 pos pos' apos:aP} {C CL fI:Ys} {ta tv:TE}
theorem Zt1{H:Hp}{e:Ys}{u:HO}(h:H e=Ya u):upd H e u=H:=by
 funext z;by_cases q:z=e
 .rw[q,fY,h]
 .rw[Zu q]
theorem Zo1(O:Gv X.K C CL fI f):cN X (.builtin "ValueError.__init__") (λxs H Q=>∃e y,xs=[.ref e,.str y]/\H e=Ya (fK e C Yj)/\Q .non H):=by intro pins s σ H xs us Q I r z;obtain⟨e,y,rfl,he,hq⟩:=z;obtain⟨u,v,rfl,ru,rv⟩:=vals2 r;cases ru;obtain⟨na,q,N,bs,bm,hdct,sn,sub,ab,col,dd,k0,k1,k2,k3,k5,lk,_,hT⟩:=O.obj;obtain⟨⟨vs,sl,tv,h1,h2,h3,h4⟩,_⟩:=(show cR X.prog X.w H s.heap e (fK e C Yj)from I.hok e _ he);obtain⟨h,g,d,t,os⟩:=s;refine pF (PySem.W.Ab7 (hT _ I.bN) (I.bN _ _ lk) h1 h2 h3 λh' t0 g1 k1=>?_);have I2:=ZnH (φ':=Gu e C Yj) (t':=t) I he (λb u hb z=>k1 b u hb z) λH'=>TV ⟨_,sl,t0,g1,by simpa using h2,by simp[j6 X_ h2],by rw[ZK (by decide)];exact h4⟩;rw[Zt1 he]at I2;exact⟨.non,H,I2,rfl,hq⟩
theorem ZrW(O:Gv X.K C CL fI f){es:List Expr}{e:Expr}{t:TA}(hm:X.mg x=Ya (.ref CL))(ha:PA X (e::es) t)(hg:autoParam (Gl X x) qA)(hdb:autoParam ((x==("__debug__":aj))=false) qB){pl:jW Bool}(he:autoParam (Yq (e::es) X.env=(false,aF e X.env)::Yq es X.env) qA)(hpl:autoParam ((bK pos (Yq es X.env)).any (·.1)=false) qA)(ht:aF (.Call (.Attribute (.Name x p1) "__init__" apos) (e::es) [] pos) X.env=(do
   let ov ←aF (.Name x p1) X.env
   Ig apos.atName
   let(f,first) ←holding [ov] (getMethod ov "__init__" pl)
   zE pos f first (bK pos (Yq (e::es) X.env)) (iC pos (iB [] X.env))):=by rfl):
  PE X (.Call (.Attribute (.Name x p1) "__init__" apos) (e::es) [] pos) (Eu (λxs H Q=>∃e y,xs=[.ref e,.str y]/\H e=Ya (fK e C Yj)/\Q .non H) t):=by
 intro pins s σ H Q I h;refine PySem.W.methodCall_KW (pl:=pl) (xV I hg hm (PySem.W.Ab8 I.bN O.ga O.rd O.fc ?_) hdb) ht;exact YJ (aH (ha pos pins _ σ H _ (I.tok _) h) λus s1 z=>let⟨vs,H1,I1,r1,q1⟩:=z;Zo1 O pins s1 σ H1 vs us Q I1 r1 q1) he hpl
theorem Zrv{i:Int}(h:i.natAbs.log2<1000):(lV (vK i)).length<=10000:=by have e:=int_text_length_le (k:=1000) (by decide) h;rw[PySem.ofString_length];omega
theorem ZrZ{ca cb:aj}{kk1 kk3}(hv:PE X value tv)(hl:ca.length+cb.length<=100:=by decide +kernel):
  PE X (.JoinedStr [.Constant (.str ca) kk1 p1,.FormattedValue value (-1) Yj p2,.Constant (.str cb) kk3 p3] pos) (λσ H Q=>tv σ H λy H1=>∃i,y= .int i/\i.natAbs.log2<1000/\∀z,Q (.str z) H1):=by
 intro pins s σ H Q I h;have z0:(zY++ca).length<=bF:=by rw[zy,q8];have:Str.empty.length=0:=rfl;omega
 refine wpAny_JoinedStr ?_;show Y8 _ _ (aF (.Constant (.str ca) kk1 p1) X.env) _ _ s;refine aH (QR pins s σ H (λv H'=>v= .str ca/\H'=H) I ⟨rfl,rfl⟩) λu s1 z=>?_;obtain⟨v,H1,I1,r1,e1,e2⟩:=z;subst e1 e2;obtain⟨t1,rfl⟩:=r1;refine⟨ca,t1,rfl,z0,?_⟩;show Y8 _ _ (aF (.FormattedValue value (-1) Yj p2) X.env) _ _ s1;refine wpAny_FormattedValue_plain (aH (hv pins s1 σ _ _ I1 h) λu2 s2 z=>?_);obtain⟨y,H2,I2,r2,i,e1,hi,hq⟩:=z;subst e1;obtain⟨t2,rfl⟩:=r2;have zi:=Zrv hi;have z1:(zY++ca++lV (vK i)).length<=bF:=by rw[zy,zy,q8];have:Str.empty.length=0:=rfl;omega
 have z2:(zY++ca++lV (vK i)++cb).length<=bF:=by rw[zy,zy,zy,q8];have:Str.empty.length=0:=rfl;omega
 refine wpAny_formatField_int (j6 hi (by decide)) ⟨_,_,rfl,z1,?_⟩;show Y8 _ _ (aF (.Constant (.str cb) kk3 p3) X.env) _ _ _;refine aH (QR pins _ σ H2 (λv H'=>v= .str cb/\H'=H2) (I2.tok _) ⟨rfl,rfl⟩) λu3 s3 z=>?_;obtain⟨v,H3,I3,r3,e1,e2⟩:=z;subst e1 e2;obtain⟨t3,rfl⟩:=r3;exact⟨cb,t3,rfl,z2,z2,⟨.str _,_,I3.tok _,⟨_,rfl⟩,hq _⟩⟩
theorem ZsK(O:Gv X.K C CL fI f)(ha:PE X o ta)(hv:PE X value tv)(hs:autoParam (tR value (Ya (.Attribute o f pos')) pos.line X.env=pure false) qA):
  PS X (.Assign [.Attribute o f pos'] value pos) (λD σ H=>tv σ H λy H1=>ta σ H1 λx H2=>∃e i,x= .ref e/\y= .int i/\H2 e=Ya (fK e C Yj)/\∀dx od,H2 dx=Yj->D.nx σ (upd (upd H2 e (fK e C (Ya dx))) dx (.b7 od (.xd [(f,.int i)])))):=by
 intro pins s σ H D I h;refine WW (aH (hv pins s σ H _ I h) λu s1 z=>?_) hs;obtain⟨y,H1,I1,ry,q⟩:=z;refine aH (ha pins s1 σ H1 _ I1 q) λov s2 z=>?_;obtain⟨x,H2,I2,rx,e,i,ex,ey,he,q2⟩:=z;subst ex ey;obtain rfl:ov=Value.ref e:=rx;obtain⟨ti,rfl⟩:=ry;obtain⟨cd,c1,c2,c3⟩:=O.cls;obtain⟨⟨vs,sl,tv,h1,h2,h3,h4⟩,_⟩:=(show cR X.prog X.w H2 s2.heap e (fK e C Yj)from I2.hok e _ he);refine PySem.W.Acl I2.bN h1 rfl rfl rfl c1 c2 c3 O.sa O.nf O.mo λh' tk' g1 g2 k1=>?_;have hdx:s2.heap.get? s2.heap.objs.size=Yj:=Iw (Yo _);obtain⟨od,es,ep,e1,e2,e3,e4,e5⟩:=id g2;refine⟨σ,_,Zqc (φ':=Gu e C (Ya s2.heap.objs.size)) (o2:=.b7 od (.xd [(f,.int i)])) I2 he hdx k1 (λH'=>TV ⟨vs,sl,tv,g1,h2,h3,h4⟩) (λH'=>⟨e1,_,g2,λn=>?_⟩),q2 _ od (TX I2 hdx)⟩;by_cases hn:n=f
 .rw[hn,if_pos rfl,iT,beq_self_eq_true];exact⟨ti,rfl⟩
 .rw[if_neg hn,iT,beq_eq_false_iff_ne.mpr hn];exact trivial
end
end _L3
set_option linter.all false
namespace _L3
noncomputable section
noncomputable def sS(c f:List Nat)(g:cW):S3:=λenv M=>match g env M with
 | .ok [.int i] M1=>if i.natAbs.log2<1000 then .exc ⟨c,.ref M1.length⟩ (M1++[.ins (0::c) [(f,.int i)]])else .bad|_=>.bad
noncomputable def Gw(c f:List Nat)(d:D)(M:Store):R3 D:=match d with
 | .ref n=>(match M[n]? with
  |some (.ins c' fs)=>if c'=0::c then(match fs with
   |[(g,.int i)]=>if g=f then .ok (.int i) M else .bad|_=>.bad)else .bad
  |_=>.bad)
 |_=>.bad
noncomputable def v_(a e:E3):E3:=λenv M=>match oV a env M with
 | .ok x M1=>(match e env M1 with
  | .ok y M2=>.ok (.tup [x,y]) M2|.exc q M2=>.exc q M2|.bad=>.bad)
 |_=>.bad
noncomputable def p8(a b:D)(M:Store):R3 D:=match b with
 | .str y=>(match a with
  | .str x=>.ok (.bl (decide (x=y))) M|.tup _=>.ok (.bl false) M|_=>.bad)
 |_=>.bad
end
end _L3
set_option Elab.async false
set_option linter.all false
set_option maxRecDepth 100000
namespace _L3
open PySem PySem.Spec PyProof.Rows _L2
noncomputable def KZ(C:Ys)(f:aj):Sp:=λvs H Q _=>∃e i,vs=[.ref e,.int i]/\i.natAbs.log2<1000/\H e=Ya (fK e C Yj)/\∀dx od,H dx=Yj->Q .non (upd (upd H e (fK e C (Ya dx))) dx (.b7 od (.xd [(f,.int i)])))
variable{C:Ys}
section
variable {P:aZ} {w:aU} {K:Yb} {mg:aj->Option Yd} {base:au}
theorem fnI{k:Nat}{fI:Ys}{f x qual:aj}{st:Ydr}{fd:jl}{N ps:List aj}(F:oK K x qual st fI fd)(S:dw N ps (Zh st))(hl:ps.length=2)(hb:∀(cdv:Yd) (A:bj) (outer:List cH) (s:Yf) (H:Hp) (E:XK),cD k (A.deeper (j7 qual (Zh st) s.heap.objs.size fI cdv))->∃t,iZ (mZ (o6 P w) P w K mg base N qual (Zh st) fI cdv A outer s H E) (bU st) t/\
   ∀D e i,i.natAbs.log2<1000->H e=Ya (fK e C Yj)->(∀dx od,H dx=Yj->D.nx (_L2.start N [.ref e,.int i]) (upd (upd H e (fK e C (Ya dx))) dx (.b7 od (.xd [(f,.int i)]))))->t D (_L2.start N [.ref e,.int i]) H):
  fM P w K mg base (o6 P w) (k+1) fI fd ps (KZ C f):=by
 obtain⟨oc,od,dV,kV,doc,pm,an,cdv,ct,osl,rfl,lk,hcd⟩:=F.ex;refine Ra lk hcd S (λvs H Q E ⟨e,i,r,_⟩=>by rw[r,hl];rfl) λA outer s H vs Q E hr ak=>?_;obtain⟨e,i,rfl,hi,he,hq⟩:=ak;obtain⟨t,ht,q⟩:=hb cdv A outer s H E hr;exact⟨t,ht,q _ e i hi he hq⟩
end
section
variable {X:Cx} {pins:List (Ys×aD)} {σ:St} {H:Hp} {s s':Yf}
theorem Zu7(I:Inv X pins σ H s){h':au}{e:Ys}{vs:List Yd}(m:Heap.MadeExcOf s.heap h' e (.ref C) vs):H e=Yj/\Inv X pins σ (upd H e (fK e C Yj)) {s with heap:=h'}:=by
 have hn:H e=Yj:=TX I m.new;obtain⟨t,ht,_,_⟩:=m.there;have xo:Gu e C Yj h':=⟨_,_,t,ht,by simp,rfl,rfl⟩;have ne:∀b o,s.heap.get? b=Ya o->b≠e:=λb o q z=>by subst z;rw[m.new]at q;cases q
 have un:Un X.fs [] H (upd H e (fK e C Yj)) s.heap h':=
  ⟨λb u q _ _ _=>m.keeps b u q,
   λb u q _ _ _=>⟨u.slots,m.keeps b u q⟩,
   λb u q n _=>by rw[Zu (ne b u q)];exact n,
   λb u q _=>⟨u,m.keeps b u q⟩,
   λb xs q=>by rw[Zu (rD q hn)];exact q,
   λb u xs q=>by rw[Zu (rD q hn)];exact q,
   λb ps q=>⟨#[],by rw[Zu (rD q hn),q];simp⟩⟩
 have hok:fD X.prog X.w (upd H e (fK e C Yj)) h':=λb u q=>by
  by_cases hb:b=e
  .subst hb;rw[fY]at q;cases q;exact TV xo
  .rw[Zu hb]at q;exact(I.hok b u q).stay (λc v _ z=>m.keeps c v z) (λc z=>by rw[Zu (rD z hn)];exact z) λc xs z=>by rw[Zu (rD z hn)];exact z
 exact⟨hn,I.un (t':=s.toks) un hok⟩
theorem Zxq{σ':St}{H':Hp}(I:Inv X pins σ H s){e:Ys}{dd:Option Ys}(hnew:s.heap.get? e=Yj)(I':Inv X pins σ' H' s')(he:H' e=Ya (fK e C dd)):
  Inv X pins σ' (upd H' e (uq e C dd)) s'/\Tj X e C (upd H' e (uq e C dd)) s':=by
 obtain⟨⟨vs,sl,tv,h1,h2,h3,h4⟩,_⟩:=(show cR X.prog X.w H' s'.heap e (fK e C dd)from I'.hok e _ he);have xo:yr e C dd s'.heap:=⟨_,_,h1,rfl,rfl,rfl⟩;have ne:∀b o,s.heap.get? b=Ya o->b≠e:=λb o q z=>by subst z;rw[hnew]at q;cases q
 have old:∀{b o},X.s₀.heap.get? b=Ya o->b∉X.fs->b∉X.ex->b∉e::frs X.stack:=λ{b o} q hb hx z=>by
  rcases Ym.mp z with z|z
  .obtain⟨o1,q1⟩:=I.base.there b o q hx;exact ne b o1 q1 z
  .exact Tn I' q hb z
 refine⟨ZnH (t':=s'.toks) (h':=s'.heap) I' he (λb u _ q=>q) λ_=>ZqF xo,dd,fY,WP s'.heap (e::frs X.stack),⟨.ref tv,.inr ⟨λb o q=>Wz _ q,Wy _ (.head _),?_,_,_,h1,rfl,rfl,h3,h4,rfl⟩⟩,⟨λb hb hne=>?_,λb o q n hb hx=>?_,λb o q hb hx=>?_⟩,λp hp=>?_⟩
 .exact PySem.W.funFrames_hide I'.stack λenv he a ha=>.tail _ (Dy.mpr ⟨env,he,ha⟩)
 .rw[Zu hne]at hb;obtain⟨u,q⟩:=Option.ne_none_iff_exists'.mp hb;obtain⟨o,ho⟩:=Q5 (I'.hok b u q);exact⟨o,Dj _ ho λz=>(Ym.mp z).elim hne λz=>hb (I'.MN b z)⟩
 .exact Dj _ (I'.base.keep b o q n hb hx) (old q hb hx)
 .obtain⟨o1,q1⟩:=I'.base.there b o q hx;exact⟨o1,Dj _ q1 (old q hb hx)⟩
 .obtain⟨q,n,n2,nf,_⟩:=I'.pin p (n_ _ hp);obtain⟨q0,_⟩:=I.pin p (n_ _ hp);exact Dj _ q λz=>(Ym.mp z).elim (ne _ _ q0) λz=>(Ym.mp (I'.zj p.1 z)).elim n2 nf
end
section
variable {X:Cx}
theorem Zss{H:Hp}{e dx:Ys}{u1 u2 u3 v:HO}(h:dx≠e):upd (upd (upd (upd H e u1) e u2) dx v) e u3=upd (upd H dx v) e u3:=by
 funext z;by_cases q:z=e
 .rw[q,fY,fY]
 .rw[Zu q,Zu q];by_cases q2:z=dx
  .rw[q2,fY,fY]
  .rw[Zu q2,Zu q2,Zu q,Zu q]
theorem ZmF{any:Bool}{c f:List Nat}{CL fI:Ys}{k:Nat}{fd:jl}{ps:List aj}{x:aj}{np cpos pos:aP}{a:Expr}{as:List Expr}{gl:cW}(O:Gv X.K C CL fI (nm f))(gG:ClsAt X.K c C)(hfn:(X.K.lookup fI).map (·.cls)=Ya (.type "function"))(G:fM X.prog X.w X.K X.mg X.base (o6 X.prog X.w) k fI fd ps (KZ C (nm f)))(bi:Binds X.K fd ps [])(hr:cD (k+1) X.A)(hm:X.mg x=Ya (.ref C))(ha:CA X.iu (a::as) gl)(hc:autoParam (X.calm=true) qA)(hg:autoParam (Gl X x) qA)(hdb:autoParam ((x==("__debug__":aj))=false) qB)(he:autoParam (Yq (a::as) X.env=(false,aF a X.env)::Yq as X.env) qA)(hpl:autoParam ((bK cpos (Yq as X.env)).any (·.1)=false) qA):uD X any (.Raise (Ya (.Call (.Name x np) (a::as) [] cpos)) Yj pos) (sS c f gl):=by
 obtain⟨na,q,N,bs,bm,hdct,sn,sub,ab,col,dd,k0,k1,k2,k3,k5,lk,hN,hT⟩:=O.obj;obtain⟨oI,lI,cI⟩:∃oI,X.K.lookup fI=Ya oI/\oI.cls= .type "function":=by
  cases z:X.K.lookup fI with
  |none=>rw[z]at hfn;cases hfn|some oI=>rw[z]at hfn;exact⟨oI,rfl,Y9 hfn⟩
 intro pins s σ H D I z;obtain⟨ι,M,env,S,E,h⟩:=z;unfold sS at h;split at h
 .rename_i i M1 qg;split at h
  .rename_i hi;have hplain:(bK cpos (Yq (a::as) X.env)).any (·.1)=false:=by rw[he];show(false|| (bK cpos (Yq as X.env)).any (·.1))=false;rw[hpl];rfl
   rw[arm_exec_Raise];refine Yc (vd (PySem.W.Ab0 (C:=C) (nm:=na) (q:=q) (N:=N) (bs:=bs) (bm:=bm) (hdct:=hdct) (sn:=sn) (sub:=sub) (ab:=ab) (col:=col) (dd:=dd) (k0:=k0) (k1:=k1) (k2:=k2) (k3:=k3) (k5:=k5)
    ((hT X.base I.ok.mod.xU).hasType (by decide)) (I.ok.hd hc) ?_))
   refine Yc (fj (wpAny_Call_ofName (xV I hg hm ?_ hdb)) (λv s₃ h₃=>Yc (vd (Yn h₃))) λ_ _ x=>x);unfold zE;refine Yc (h_ ?_);have key:=Zqk (pos:=cpos) (R:=λus s2=>∃vs H1 ι1,Inv X pins σ H1 s2/\Vals vs us/\Ext X.K H ι H1 ι1/\aq X.K H1 ι1 M1/\Zm X.K H1 ι1 [.int i] vs) ha I S E qg (λus s1 vs H1 ι1 I1 r x1 S1 r1=>⟨vs,H1,ι1,I1,r,x1,S1,r1⟩);rw[hplain];rw[he]at key ⊢;refine Qw (fj key (λus s2 zz=>?_) λ_ _ y=>y);obtain⟨vs,H1,ι1,I1,r,x1,S1,r1⟩:=zz;obtain⟨hp,g,d,tk,os⟩:=s2;refine Yc (vd ?_);refine Yc (wpAny_keeperOf_exc (I1.bN _ _ lk) ?_);obtain⟨mN,hns,hni⟩:=hN _ I1.bN;have l1:us.length=1:=by rw[←r.length,r1.length];rfl
   refine Yc (PySem.W.Ab6 (hT _ I1.bN) (I1.bN _ _ lk) hns hni (I1.bN _ _ lI) cI (by show us.length<=_;rw[l1];decide) λh' e mk=>?_);obtain⟨hn,I2⟩:=Zu7 I1 mk;obtain rfl:vs=[.int i]:=by obtain⟨v,ws,rfl,rv,i_⟩:=Zm.cons_inv r1;obtain rfl:=Zm.nil_inv i_;obtain rfl:v= .int i:=rv;rfl
   have r2:Vals (V.ref e::[V.int i]) (Value.ref e::us):=.cons rfl r;have hsp:KZ C (nm f) (V.ref e::[V.int i]) (upd H1 e (fK e C Yj)) (λv H2=>v= .non/\∃dx od,H1 dx=Yj/\dx≠e/\H2=upd (upd (upd H1 e (fK e C Yj)) e (fK e C (Ya dx))) dx (.b7 od (.xd [(nm f,.int i)]))) E0:=
    ⟨e,i,rfl,hi,fY,λdx od hd=>by
     have hde:dx≠e:=by rintro rfl;rw[fY]at hd;cases hd
     rw[Zu hde]at hd;exact⟨rfl,dx,od,hd,hde,rfl⟩⟩
   have hl:(Value.ref e::us++[]).length=ps.length:=by have z:=r2.length;rw[G.len _ _ _ _ hsp]at z;rw[iD];exact z.symm
   have hb':=bi _ (Value.ref e::us) I2.bN hl;rw[iD]at hb';refine pF (pC (G.run _ X.stack _ _ ⟨Value.ref e::us,[]⟩ (Value.ref e::us) _ _ E0 (hr.make C us []) (I2.env0.make C us []) hb' r2 hsp) λr s' hq'=>?_);cases r with
   |error e=>obtain⟨_,_,_,_,_,_,_,_,_,_,_,_,_,z⟩:=hq';exact z.elim|ok fl=>
    cases fl with
    |next=>exact dR hq'|brk=>exact dR hq'|cont=>exact dR hq'|ret u=>
     obtain⟨v,H',I3,rv,ev,dx,od,hdx,hde,eH⟩:=I2.after hq';subst ev eH;have h3:(upd (upd (upd H1 e (fK e C Yj)) e (fK e C (Ya dx))) dx (.b7 od (.xd [(nm f,.int i)]))) e=Ya (fK e C (Ya dx)):=by rw[Zu (bT hde),fY]
     obtain⟨I4,KH⟩:=Zxq I1 mk.new I3 h3;obtain⟨⟨vs',sl,tv,g1,g2,g3,g4⟩,_⟩:=(show cR X.prog X.w _ s'.heap e (fK e C (Ya dx))from I3.hok e _ h3);refine⟨rv,Yc (h_ (Ds (Yn ⟨e,Ya dx,vs',sl,rfl,I3.bN _ _ lk,g1,g4,?_⟩)))⟩;rw[Zss hde]at I4 KH;have L1:Loose H1 dx:=.inl hdx;have S2:aq X.K (upd H1 dx (.b7 od (.xd [(nm f,.int i)]))) ι1 M1:=S1.other L1 (S1.fresh hdx);have hn2:upd H1 dx (.b7 od (.xd [(nm f,.int i)])) e=Yj:=by rw[Zu (bT hde)];exact hn
     refine h σ e C _ (ι1++[e]) (λ_=>rfl) (x1.trans (L1.ext.trans (Loose.Dd (.inl hn2)))) (S2.new hn2 (.inr ⟨C,Ya dx,fY,rfl,gG,.inr ⟨dx,od,[(nm f,.int i)],rfl,?_,rfl,?_⟩⟩)) (Rep.ref (by rw[←S2.len];simp)) gG pins _ I4 KH
     .rw[Zu hde,fY]
     .exact Zm.cons rfl Zm.nil
  .exact h.elim
 .exact h.elim
structure TY(K:Yb)(c:List Nat)(C:Ys)(f:aj):Prop where
 gG:ClsAt K c C
 ga:Y7 K (.ref C) "__getattribute__" =Ya (Ya (.builtin "BaseException.__getattribute__"))
 gt:Y7 K (.ref C) "__getattr__" =Ya Yj
 mb:tL K C (.type "BaseException")=Ya true
 cd:(tM K C).map (·.hasDict)=Ya true
 nf:Y7 K (.ref C) f=Ya Yj
theorem ZuT{c m:List Nat}{e:Expr}{f:E3}{fn:aj}{pos:aP}(G:TY X.K c C (nm m))(he:C3 X e f)(hf:fn=nm m:=by decide +kernel)(hb:autoParam (mO e fn X.env (aF e X.env)=aF e X.env) qA):C3 X (.Attribute e fn pos) (e1 (Gw c m) f):=by
 subst hf;intro pins s σ H Q I h;obtain⟨ι,M,env,S,E,h⟩:=h;obtain⟨d,M1,e1,hh⟩:=Zn.bind h;refine Zof hb (aH (he pins s σ H (λv H1=>∃ι1,Ext X.K H ι H1 ι1/\aq X.K H1 ι1 M1/\Rep X.K H1 ι1 d v) I ⟨ι,M,env,S,E,by rw[e1];exactλv H1 ι1 x1 S1 r1=>⟨ι1,x1,S1,r1⟩⟩) λu s1 z=>?_);obtain⟨v,H1,I1,rv,ι1,x1,S1,r1⟩:=z;unfold Gw at hh;split at hh
 .rename_i n;split at hh
  .rename_i c' fs hn;split at hh
   .rename_i ec;subst ec;split at hh
    .rename_i g i;split at hh
     .rename_i eg;subst eg;obtain⟨a,ha,rfl⟩:=r1.e_;obtain rfl:u=Value.ref a:=rv;rcases S1.obj n _ a hn ha with⟨_,_,_,_,⟨_,z⟩,_⟩|⟨C',dd,q,_,ca,z⟩
      .exact absurd rfl z
      obtain rfl:C'=C:=by have z1:=ca.symm.trans G.gG;injection z1 with z1;injection z1 with z1;injection z1
      rcases z with z|⟨dx,od,gs,rfl,hdx,K3,fr2⟩
      .cases z
      obtain⟨⟨o,vs,h1,h2,h3,h4⟩,_⟩:=(show cR X.prog X.w H1 s1.heap a (uq a C' (Ya dx))from I1.hok a _ q);obtain⟨_,mA,hns,hm⟩:=(show cR X.prog X.w H1 s1.heap dx (.b7 od (.xd gs))from I1.hok dx _ hdx);obtain⟨cd,c1,c2⟩:∃cd,tM X.K C'=Ya cd/\cd.hasDict=true:=by
       cases z:tM X.K C' with
       |none=>have:=G.cd;rw[z]at this;cases this|some cd=>have:=G.cd;rw[z]at this;exact⟨cd,rfl,Y9 this⟩
      have lg:gs.lookup (nm g)=Ya (.int i):=by
       obtain⟨v,ws,e2,r3,r4⟩:=Zm.cons_inv fr2;obtain rfl:=Zm.nil_inv r4;obtain rfl:v= .int i:=r3
       match gs,K3,e2 with
       |[(a,b)],K3,e2=>simp at K3 e2;subst K3 e2;rw[iT,beq_self_eq_true]
      have hm:=hm (nm g);rw[lg]at hm;cases hv:mA (nm g)with
      |none=>rw[hv]at hm;exact hm.elim|some uv=>rw[hv]at hm;obtain⟨ti,rfl⟩:∃t,uv=Value.int i t:=hm;exact PySem.W.Ack G.ga G.gt G.mb I1.bN ⟨o,h1,h2⟩ (PySem.W.Ab5 I1.bN h1 h2 h3 h4 hns hv c1 c2 G.nf) rfl ⟨.int i,H1,I1.tok _,⟨ti,rfl⟩,hh _ _ ι1 x1 S1 rfl⟩
     .exact hh.elim
    .exact hh.elim
   .exact hh.elim
  .exact hh.elim
 .exact hh.elim
end
end _L3
set_option Elab.async false
set_option linter.all false
set_option maxRecDepth 100000
namespace _L3
open PySem PySem.Spec PyProof.Rows _L2
structure T3(K:Yb)(c:List Nat)(C CL fI:Ys)(f qual:aj)(st:Ydr)(ps:List aj):Prop where
 own:Gv K C CL fI f
 gG:ClsAt K c C
 fn:∃fd,oK K "__init__" qual st fI fd/\Binds K fd ps []
 fc:(K.lookup fI).map (·.cls)=Ya (.type "function")
def ZpI(P:aZ)(w:aU)(K:Yb)(mg:aj->Option Yd)(base:au)(C fI:Ys)(f:aj)(ps:List aj):Prop:=∃fd,Binds K fd ps []/\fM P w K mg base (o6 P w) 1 fI fd ps (KZ C f)
theorem Zwp{C:Ys}{f:aj}{e:Ys}{i:Int}{H:Hp}{D:Ends}{N:List aj}(hN:N.length=2)(hi:i.natAbs.log2<1000)(he:H e=Ya (fK e C Yj))(hq:∀dx od,H dx=Yj->D.nx (_L2.start N [.ref e,.int i]) (upd (upd H e (fK e C (Ya dx))) dx (.b7 od (.xd [(f,.int i)])))):
  Zwn (Ztx (Eu (λxs H Q=>∃e y,xs=[.ref e,.str y]/\H e=Ya (fK e C Yj)/\Q .non H) (JN (Ep 0) (JN (λσ H Q=>Ep 1 σ H λy H1=>∃i,y= .int i/\i.natAbs.log2<1000/\∀z,Q (.str z) H1) Q9))))
   (λD σ H=>Ep 1 σ H λy H1=>Ep 0 σ H1 λx H2=>∃e i,x= .ref e/\y= .int i/\H2 e=Ya (fK e C Yj)/\∀dx od,H2 dx=Yj->D.nx σ (upd (upd H2 e (fK e C (Ya dx))) dx (.b7 od (.xd [(f,.int i)])))) D (_L2.start N [.ref e,.int i]) H:=by
 have h0:(_L2.start N [.ref e,.int i])[0]?=Ya (Ya (.ref e)):=rfl;have h1:(_L2.start N [.ref e,.int i])[1]?=Ya (Ya (.int i)):=rfl;exact⟨_,h0,_,h1,i,rfl,hi,λz=>⟨e,z,rfl,he,_,h1,_,h0,e,i,rfl,rfl,he,hq⟩⟩
theorem K4{X:Cx}{any:Bool}{c f:List Nat}{C CL fI:Ys}{qual fn:aj}{st:Ydr}{ps:List aj}{x:aj}{np cpos pos:aP}{a:Expr}{as:List Expr}{gl:cW}(R:T3 X.K c C CL fI fn qual st ps)(G:ZpI X.prog X.w X.K X.mg X.base C fI fn ps)(hr:cD 2 X.A)(hm:X.mg x=Ya (.ref C))(ha:CA X.iu (a::as) gl)(hf:fn=nm f:=by decide +kernel)(hc:autoParam (X.calm=true) qA)(hg:autoParam (Gl X x) qA)(hdb:autoParam ((x==("__debug__":aj))=false) qB)(he:autoParam (Yq (a::as) X.env=(false,aF a X.env)::Yq as X.env) qA)(hpl:autoParam ((bK cpos (Yq as X.env)).any (·.1)=false) qA):uD X any (.Raise (Ya (.Call (.Name x np) (a::as) [] cpos)) Yj pos) (sS c f gl):=by subst hf;obtain⟨fd,b,G⟩:=G;exact ZmF (CL:=CL) R.own R.gG R.fc G b hr hm ha hc hg hdb he hpl
section
variable {K:Yb} {c:List Nat} {C CL fI:Ys} {f qual:aj} {st:Ydr} {ps:List aj}
theorem ZvK{na q:aj}{N:Ys}{bs bm:List Yd}{hdct:Bool}{sn:List aj}{sub:List Yd}{ab:Bool}{col:Option Bool}{dd:Option Ys}{k0 k1 k2 k3 k5:Option Yd}{cd:PySem.ClassData}{oc dV kV doc pm cdv ct:Yd}{od an:Option Ys}{osl:Array (Option Yd)}(gG:ClsAt K c C)(lk:K.lookup C=Ya (vf na q C N bs bm hdct sn sub ab col dd k0 k1 k2 k3 k5 "ValueError.__new__"))(hN:∀h:au,K.In h->∃mN,h.Ns N mN/\mN "__init__" =Ya (.ref fI))(hT:∀h:au,K.In h->OwnTail h PySem.W.p7 bm)(cl:tM K C=Ya cd)(c2:cd.hasDict=true)(c3:cd.mro= .ref C:: .ref CL::PySem.W.p7)(sa:Y7 K (.ref C) "__setattr__" =Ya (Ya (.builtin "object.__setattr__")))(nf:Y7 K (.ref C) f=Ya Yj)(mo:tL K C (.type "object")=Ya true)(ga:zp K (.ref CL) "__getattribute__" =Ya (Ya (.builtin "type.__getattribute__")))(rd:NK K CL (.type "type")=true)(fc:NP K (.ref CL) (.type "type") "__init__" =Ya (.val (.builtin "ValueError.__init__")))(l:K.lookup fI=Ya ⟨oc,od,.func (nZ "__init__" qual (cO st) (bU st) (Zh st) dV kV doc pm an cdv ct),osl⟩)(ci:zq K cdv qual=true)(kp:pB K (.ref fI)=true)(ho:oc= .type "function")(b:Binds K (nZ "__init__" qual (cO st) (bU st) (Zh st) dV kV doc pm an cdv ct) ps []):T3 K c C CL fI f qual st ps:=⟨⟨⟨na,q,N,bs,bm,hdct,sn,sub,ab,col,dd,k0,k1,k2,k3,k5,lk,hN,hT⟩,⟨cd,cl,c2,c3⟩,sa,nf,mo,ga,rd,fc⟩,gG,⟨_,⟨⟨oc,od,dV,kV,doc,pm,an,cdv,ct,osl,rfl,l,ci⟩,kp⟩,b⟩,by rw[l,ho];rfl⟩
theorem Zop{cd:PySem.ClassData}(gG:ClsAt K c C)(ga:Y7 K (.ref C) "__getattribute__" =Ya (Ya (.builtin "BaseException.__getattribute__")))(gt:Y7 K (.ref C) "__getattr__" =Ya Yj)(mb:tL K C (.type "BaseException")=Ya true)(cl:tM K C=Ya cd)(c2:cd.hasDict=true)(nf:Y7 K (.ref C) f=Ya Yj){m:List Nat}(hf:f=nm m:=by decide +kernel):TY K c C (nm m):=by subst hf;exact⟨gG,ga,gt,mb,by rw[cl,←c2];rfl,nf⟩
end
section
variable {X:Cx} {a e:Expr} {f h:E3} {pos:aP}
theorem Zvc{x1}(ho:C3 X.iu a f)(he:Gm X e h)(hs1:autoParam (Yq [a,e] X.env=(false,aF a X.env)::Yq [e] X.env) qA)(hs:autoParam (Yq [e] X.env=(false,aF e X.env)::Yq [] X.env) qA):Gm X (.Tuple [a,e] x1 pos) (v_ f h):=
 (Q_ (oJ (PE.iu ho) (oJ he xY hs) hs1)).imp λσ H Q ak=>by
 obtain⟨ι,M,env,S,E,hh⟩:=ak;refine⟨ι,M,env,S,E,?_⟩;unfold v_ oV at hh;cases q:f env M with
 |bad=>rw[q]at hh;exact hh.elim|exc x M1=>rw[q]at hh;exact hh.elim|ok a M1=>
  rw[q]at hh;intro v H1 ι1 x1 S1 r1;refine⟨ι1,M1,env,S1,E.mono x1,?_⟩;dsimp only at hh;cases q2:h env M1 with
  |bad=>rw[q2]at hh;exact hh.elim|exc x M2=>rw[q2]at hh;exactλa C H' ι' x2 S1 r1 c1=>hh a C H' ι' (x1.trans x2) S1 r1 c1|ok d M2=>rw[q2]at hh;intro v2 H2 ι2 x2 S2 r2;refine⟨by show 2<=bF;decide,λp hp=>?_⟩;obtain⟨x3,S3,r3⟩:=S2.tE hp (Zm.cons (r1.mono x2) (Zm.cons r2 Zm.nil));exact hh _ _ _ ((x1.trans x2).trans x3) S3 r3
end
section
variable {X:Cx}
theorem T4(hu:X.A.units+80<iR):bh X (fX .Eq) (r2 X.K p8):=by
 intro pins s σ H x y v u Q I rx ry h;obtain⟨ι,M,a,b,S,ra,rb,h⟩:=h;unfold p8 at h;split at h
 .rename_i y';split at h
  .rename_i x';exact(Km hu I S ra rb rx ry (k:=decide (x'=y')) rfl).1 X.prog X.w X.xe _ ⟨.bl (decide (x'=y')),H,I,rfl,Zn.ok h S Rep.bl⟩
  .rename_i ds;obtain⟨t',e'⟩:=uw rb ry;obtain⟨p,vs,rfl,sq,r⟩:=ra;obtain⟨its,_,t,_⟩:=I.tuple sq;obtain rfl:v=Value.ref p:=rx;rw[e'];exact SeqAt.RcAt.tuple_str _ _ t (lB 1 17666545486865 T1 hu) X.prog X.w X.xe _ ⟨.bl false,H,I,rfl,Zn.ok h S Rep.bl⟩
  .exact h.elim
 .exact h.elim
end
end _L3
set_option maxHeartbeats 400000
namespace _Law
open PySem _L3
noncomputable section
def uV:E3:=eC (.str [48,49,50,51,52,53,54,55,56,57])
def wL:E3:=eC (.str [97,98,99,100,101,102,103,104,105,106,107,108,109,110,111,112,113,114,115,116,117,118,119,120,121,122])
def nF:jO:=[([119,104,101,110],2),([119,104,105,108,101],1)]
def wJ:E3:=eC (.int 12)
def wK:E3:=eC (.int 6)
def qU:E3:=eC (.int 60)
def qW:E3:=eC (.int 8)
def zb:E3:=eC (.int 6)
def uU:E3:=eC (.int 60)
def nG:jO:=[([97,100,100],2),([115,117,98],2),([109,111,114,101],2),([99,101,108,108],1)]
def nH:jO:=[([115,101,116],1),([112,117,116],2),([116,101,108,108],1),([119,104,101,110],1),([101,108,115,101],0),([119,104,105,108,101],1),([101,110,100],0)]
def p_:List (List Nat):=[[116,97,107,101],[115,101,116],[112,117,116],[116,101,108,108],[119,104,101,110],[101,108,115,101],[119,104,105,108,101],[101,110,100],[97,100,100],[115,117,98],[109,111,114,101],[99,101,108,108]]
def uF:E3:=eC (.tup (p_.map D.str))
def Gx:S3:=Zw (aJ 1 (jL (bB iw rN (Za 0) (Zb (eC (.str [45])) (Zg))) (dD (Za 0) (bQ (eC (.int 1))) (gJ)) (Za 0))) (Zw (aK (dz (e2 jN (aG bx (Zb (Za 1) (Zg))) (eC (.int 1))) (e2 jo (aG bx (Zb (Za 1) (Zg))) (qU))) (aX (eC (.bl false))) (aY)) (Zw (aK (bB iw rN (Za 1) (Zb (eC (.str [48])) (Zg))) (aX (e2 aN (Za 0) (eC (.str [48])))) (aY)) (aX (aG rK (Zb (jx (eQ (Za 1)) 1 (dN 2) [] (e2 kj (Za 2) (uV))) (Zg))))))
def qb:F3:=bL 1 2 Gx
def T5:S3:=Zw (aJ 1 (b_ (Zg))) (Zw (aJ 2 (eC (.int 0))) (Zw (ul (eQ (Za 0)) (dN 3) (Zw (aK (e2 aN (Za 2) (eC (.int 0))) (Zw (bV (bB dF d9 (Za 1) (Zb (b_ (Zg)) (Zg)))) (aJ 2 (eC (.int 1)))) (aY)) (Zw (bV (bB dF d9 (e2 Zz (Za 1) (e1 gH (eC (.int 1)))) (Zb (Za 3) (Zg)))) (aJ 2 (e2 cJ (e2 oM (Za 2) (eC (.int 1))) (e2 (uo nG) (Za 3) (eC (.int 0)))))))) (aX (jL (e2 aN (Za 2) (eC (.int 0))) (jx (eQ (Za 1)) 1 (dN 4) [] (aG gY (Zb (Za 4) (Zg)))) (eC .non)))))
def wg:F3:=bL 1 4 T5
def ZgI:S3:=aX (e1 (uE nG) (Za 0))
def BX:F3:=bL 1 1 ZgI
def T6:S3:=aX (bf wg (Zb (dD (Za 0) (bQ (eC (.int 1))) (gJ)) (Zg)))
def K5:F3:=bL 1 1 T6
def T7(rec:F3):S3:=Zw (aJ 1 (bf K5 (Zb (Za 0) (Zg)))) (aX (aG (BV 1) (Zb (vW (RM (Za 1)) 2 (jc [2,3]) [] (e2 cJ (bf rec (Zb (Za 3) (Zg))) (Za 2))) (Zg))))
def yI:Nat->F3
 |0=>bL 1 2 RG|n+1=>bL 1 2 (T7 (yI n))
def Gy:F3:=yI 61
def K6:S3:=Zw (aK (dz (e2 jN (aG bx (Zb (Za 0) (Zg))) (eC (.int 1))) (dz (e2 jo (aG bx (Zb (Za 0) (Zg))) (qW)) (e2 kj (Za 0) (uF)))) (aX (eC (.bl false))) (aY)) (aX (aG rK (Zb (jx (eQ (Za 0)) 1 (dN 1) [] (e2 kj (Za 1) (wL))) (Zg))))
def nJ:F3:=bL 1 1 K6
def ZgH:S3:=Zw (fO (aJ 1 (dD (e2 Zz (Za 0) (eC (.int 1))) (bQ (eC (.int 1))) (gJ)))) (Zw (aK (oV (dz (e2 jN (aG bx (Zb (Za 1) (Zg))) (eC (.int 1))) (dz (e2 jo (aG bx (Zb (Za 1) (Zg))) (zb)) (e2 iI (aG Zok (Zb (Za 1) (Zg))) (aG bx (Zb (Za 1) (Zg))))))) (sS [66,97,100,82,111,119] [114,111,119] (Zb (e2 Zz (Za 0) (eC (.int 0))) (Zg))) (fO (aY))) (Zw (aK (oV (e1 lX (aG rK (Zb (jx (eQ (Za 1)) 1 (dN 2) [] (bf nJ (Zb (Za 2) (Zg)))) (Zg))))) (sS [66,97,100,82,111,119] [114,111,119] (Zb (e2 Zz (Za 0) (eC (.int 0))) (Zg))) (fO (aY))) (fO (aX (aG gY (Zb (Za 1) (Zg)))))))
def T8:F3:=bL 1 2 ZgH
def Zel:S3:=Zw (FN [66,108,111,99,107] [104,101,97,100] (Za 0) (Za 1)) (FN [66,108,111,99,107] [108,105,115,116,115] (Za 0) (b_ (Zb (b_ (Zg)) (Zg))))
def wj:F3:=bL 2 2 Zel
def T9:S3:=Zw (aK (e1 lX (aG rK (Zb (jx (eQ (Za 0)) 1 (dN 3) [] (dz (bf BX (Zb (Za 3) (Zg))) (dz (bf nJ (Zb (Za 3) (Zg))) (bf qb (Zb (Za 3) (Zg)))))) (Zg)))) (aX (eC .non)) (aY)) (Zw (aJ 1 (bf wg (Zb (jx (eQ (Za 0)) 1 (dN 3) [] (jL (bf qb (Zb (Za 3) (Zg))) (aG oU (Zb (Za 3) (Zg))) (Za 3))) (Zg)))) (Zw (aK (e2 Am (Za 1) (eC .non)) (aX (eC .non)) (aY)) (Zw (aJ 2 (vW (RM (Za 1)) 2 (jc [3,4]) [] (e2 cJ (bf Gy (Zb (Za 4) (Zg))) (Za 3)))) (aX (jL (e2 EY (aG (BV 0) (Zb (Za 2) (Zg))) (wK)) (Za 1) (eC .non))))))
def K7:F3:=bL 1 3 T9
def T_:S3:=Zw (aK (dz (e1 (KN nH) (e2 Zz (Za 0) (eC (.int 0)))) (e2 jo (aG bx (Zb (Za 0) (Zg))) (uU))) (aX (eC .non)) (aY)) (Zw (aJ 1 (jL (e2 aN (e2 Zz (Za 0) (eC (.int 0))) (eC (.str [115,101,116]))) (eC (.int 2)) (eC (.int 1)))) (Zw (aK (e1 lX (aG rK (Zb (jx (eQ (dD (Za 0) (bQ (eC (.int 1))) (bQ (Za 1)))) 1 (dN 3) [] (bf nJ (Zb (Za 3) (Zg)))) (Zg)))) (aX (eC .non)) (aY)) (Zw (aJ 2 (bf K7 (Zb (dD (Za 0) (bQ (Za 1)) (gJ)) (Zg)))) (Zw (aK (dz (e2 Am (Za 2) (eC .non)) (e2 iI (aG bx (Zb (Za 2) (Zg))) (e1 (Gs nH) (e2 Zz (Za 0) (eC (.int 0)))))) (aX (eC .non)) (aY)) (aX (aG gY (Zb (e2 cJ (dD (Za 0) (gJ) (bQ (Za 1))) (Za 2)) (Zg))))))))
def Gz:F3:=bL 1 3 T_
def Ua:S3:=Zw (aJ 2 (e2 Zz (Za 0) (e1 gH (eC (.int 1))))) (Zw (aJ 3 (e2 aN (e2 (uo nF) (e2 Zz (e1 (jg [66,108,111,99,107] [104,101,97,100]) (Za 2)) (eC (.int 0))) (eC (.int 0))) (aG bx (Zb (e1 (jg [66,108,111,99,107] [108,105,115,116,115]) (Za 2)) (Zg))))) (Zw (aK (e1 (uE nF) (Za 1)) (aX (e2 EY (aG bx (Zb (Za 0) (Zg))) (wJ))) (aY)) (Zw (aK (e2 aN (Za 1) (eC (.str [101,108,115,101]))) (aX (eO (e2 aN (e2 Zz (e1 (jg [66,108,111,99,107] [104,101,97,100]) (Za 2)) (eC (.int 0))) (eC (.str [119,104,101,110]))) (e1 lX (Za 3)))) (aY)) (Zw (aK (e2 aN (Za 1) (eC (.str [101,110,100]))) (aX (Za 3)) (aY)) (aX (eC (.bl true)))))))
def yJ:F3:=bL 2 4 Ua
def yK:S3:=Zw (aJ 2 (e2 Zz (Za 0) (e1 gH (eC (.int 1))))) (aK (e1 (uE nF) (e2 Zz (Za 1) (eC (.int 0)))) (bV (bB dF d9 (Za 0) (Zb (yp [66,108,111,99,107] wj (Zb (Za 1) (Zg))) (Zg)))) (aK (e2 aN (e2 Zz (Za 1) (eC (.int 0))) (eC (.str [101,108,115,101]))) (bV (bB dF d9 (e1 (jg [66,108,111,99,107] [108,105,115,116,115]) (Za 2)) (Zb (b_ (Zg)) (Zg)))) (aK (e2 aN (e2 Zz (Za 1) (eC (.int 0))) (eC (.str [101,110,100]))) (Zw (bV (bB dF Ax (Za 0) (Zg))) (Zw (aJ 3 (e2 cJ (e1 (jg [66,108,111,99,107] [104,101,97,100]) (Za 2)) (aG gY (Zb (jx (eQ (e1 (jg [66,108,111,99,107] [108,105,115,116,115]) (Za 2))) 1 (dN 4) [] (aG gY (Zb (Za 4) (Zg)))) (Zg))))) (bV (bB dF d9 (e2 Zz (e1 (jg [66,108,111,99,107] [108,105,115,116,115]) (e2 Zz (Za 0) (e1 gH (eC (.int 1))))) (e1 gH (eC (.int 1)))) (Zb (Za 3) (Zg)))))) (bV (bB dF d9 (e2 Zz (e1 (jg [66,108,111,99,107] [108,105,115,116,115]) (Za 2)) (e1 gH (eC (.int 1)))) (Zb (Za 1) (Zg)))))))
def uG:F3:=bL 2 4 yK
def GC:S3:=Zw (fO (aJ 2 (b_ (Zb (yp [66,108,111,99,107] wj (Zb (jb (Zb (eC (.str [112,114,111,103,114,97,109])) (Zg))) (Zg))) (Zg))))) (Zw (FP (eQ (Za 0)) (jc [3,4]) (Zw (fO (aJ 5 (bf Gz (Zb (Za 4) (Zg))))) (Zw (aK (oV (dz (e2 Am (Za 5) (eC .non)) (e1 lX (bf yJ (Zb (Za 2) (Zb (e2 Zz (Za 5) (eC (.int 0))) (Zg))))))) (sS [66,97,100,82,111,119] [114,111,119] (Zb (Za 3) (Zg))) (fO (aY))) (fO (bV (bf uG (Zb (Za 2) (Zb (Za 5) (Zg))))))))) (Zw (aK (oV (e2 jo (aG bx (Zb (Za 2) (Zg))) (eC (.int 1)))) (sS [66,97,100,82,111,119] [114,111,119] (Zb (Za 1) (Zg))) (fO (aY))) (fO (aX (aG gY (Zb (e2 Zz (e1 (jg [66,108,111,99,107] [108,105,115,116,115]) (e2 Zz (Za 2) (eC (.int 0)))) (eC (.int 0))) (Zg)))))))
def wk:F3:=bL 2 6 GC
def K8:S3:=Zw (fO (aJ 1 (bB iw rO (Za 0) (Zb (eC (.str [10])) (Zg))))) (Zw (fO (aJ 2 (vW (RQ (Za 1)) 2 (jc [4,5]) [e2 iI (Za 5) (eC (.str []))] (jb (Zb (Za 4) (Zb (bB iw rO (Za 5) (Zb (eC (.str [32])) (Zg))) (Zg))))))) (Zw (fO (aJ 3 (jb (Zg)))) (Zw (aK (oV (eO (e2 jo (aG bx (Zb (Za 2) (Zg))) (eC (.int 0))) (e2 aN (e2 Zz (e2 Zz (e2 Zz (Za 2) (eC (.int 0))) (eC (.int 1))) (eC (.int 0))) (eC (.str [116,97,107,101]))))) (Zw (aJ 3 (bf T8 (pQ (Zb (e2 Zz (Za 2) (eC (.int 0))) (Zg))))) (fO (aJ 2 (dD (Za 2) (bQ (eC (.int 1))) (gJ))))) (fO (aY))) (aX (v_ (Za 3) (bf wk (pQ (Zb (Za 2) (Zb (e2 cJ (aG bx (Zb (Za 1) (Zg))) (eC (.int 1))) (Zg))))))))))
def yL:F3:=bL 1 4 K8
def sU(rec:F3):S3:=Zw (aK (e1 (Fz .tuple .list) (Za 1)) (Zw (aK (dz (e2 iI (e1 (m9 .tuple) (Za 0)) (e1 (m9 .tuple) (Za 1))) (e1 lX (e1 (Fz .tuple .list) (Za 0)))) (aX (eC (.bl false))) (aY)) (aX (eO (e2 aN (aG bx (Zb (Za 0) (Zg))) (aG bx (Zb (Za 1) (Zg)))) (aG rK (Zb (jx (RJ (aG bx (Zb (Za 1) (Zg)))) 1 (dN 2) [] (bf rec (Zb (e2 Zz (Za 0) (Za 2)) (Zb (e2 Zz (Za 1) (Za 2)) (Zg))))) (Zg)))))) (aY)) (Zw (aK (e1 (m9 .str) (Za 1)) (aX (eO (e1 (m9 .str) (Za 0)) (e2 aN (Za 0) (Za 1)))) (aY)) (Zw (aK (e1 (m9 .bool) (Za 1)) (aX (eO (e1 (m9 .bool) (Za 0)) (e2 aN (Za 0) (Za 1)))) (aY)) (aX (eO (e1 (m9 .int) (Za 0)) (eO (e1 lX (e1 (m9 .bool) (Za 0))) (e2 aN (Za 0) (Za 1)))))))
def o7:Nat->F3
 |0=>bL 2 2 RG|n+1=>bL 2 2 (sU (o7 n))
def K9:F3:=o7 31
def BZ:S3:=Zw (aK (e2 rP (Za 1) (b_ (Zb (eC (.str [119,104,101,110])) (Zb (eC (.str [119,104,105,108,101])) (Zg))))) (aX (e2 jN (aG bx (Zb (Za 0) (Zg))) (eC (.int 12)))) (aY)) (Zw (aK (e2 aN (Za 1) (eC (.str [101,108,115,101]))) (aX (eO (e2 sO (Za 0) (b_ (Zg))) (e2 aN (e2 Zz (Za 0) (e1 gH (eC (.int 1)))) (eC (.str [119,104,101,110]))))) (aY)) (Zw (aK (e2 aN (Za 1) (eC (.str [101,110,100]))) (aX (eO (e2 sO (Za 0) (b_ (Zg))) (e2 iI (e2 Zz (Za 0) (e1 gH (eC (.int 1)))) (eC (.str [119,104,101,110]))))) (aY)) (aX (eC (.bl true)))))
def uH:F3:=bL 2 2 BZ
def B_:S3:=Zw (aK (e2 rP (Za 1) (b_ (Zb (eC (.str [119,104,101,110])) (Zb (eC (.str [119,104,105,108,101])) (Zg))))) (aX (e2 cJ (Za 0) (b_ (Zb (Za 1) (Zg))))) (aY)) (Zw (aK (e2 aN (Za 1) (eC (.str [101,108,115,101]))) (aX (e2 cJ (dD (Za 0) (gJ) (bQ (e1 gH (eC (.int 1))))) (b_ (Zb (eC (.str [101,108,115,101])) (Zg))))) (aY)) (Zw (aK (e2 aN (Za 1) (eC (.str [101,110,100]))) (aX (dD (Za 0) (gJ) (bQ (e1 gH (eC (.int 1)))))) (aY)) (aX (Za 0))))
def yM:F3:=bL 2 2 B_
def Ca:S3:=Zw (aJ 2 (e2 Zz (b_ (Zb (eC (.str [116,101,108,108])) (Zb (eC (.str [119,104,101,110])) (Zb (eC (.str [119,104,105,108,101])) (Zb (eC (.str [101,108,115,101])) (Zb (eC (.str [101,110,100])) (Zb (eC (.str [119,104,101,110])) (Zb (eC (.str [101,108,115,101])) (Zb (eC (.str [101,110,100])) (Zb (eC (.str [115,101,116])) (Zb (eC (.str [119,104,105,108,101])) (Zb (eC (.str [101,110,100])) (Zg))))))))))))) (e2 gW (e2 jM (Za 0) (eC (.int 16))) (eC (.int 11))))) (Zw (aK (eO (e2 aN (e2 gW (e2 jM (Za 0) (eC (.int 176))) (eC (.int 4))) (eC (.int 1))) (e2 jN (aG bx (Zb (Za 1) (Zg))) (eC (.int 12)))) (aJ 2 (eC (.str [119,104,101,110]))) (aY)) (Zw (aK (dz (e2 aN (e2 gW (Za 0) (eC (.int 16))) (eC (.int 15))) (bf uH (Zb (Za 1) (Zb (Za 2) (Zg))))) (aX (Za 2)) (aY)) (Zw (aK (e2 aN (Za 1) (b_ (Zg))) (aX (e2 Zz (b_ (Zb (eC (.str [116,101,108,108])) (Zb (eC (.str [119,104,101,110])) (Zg)))) (e2 gW (e2 jM (Za 0) (eC (.int 16))) (eC (.int 2))))) (aY)) (Zw (aK (e2 aN (e2 Zz (Za 1) (e1 gH (eC (.int 1)))) (eC (.str [119,104,101,110]))) (aX (eC (.str [101,108,115,101]))) (aY)) (aX (eC (.str [101,110,100])))))))
def GD:F3:=bL 2 3 Ca
def K_:S3:=Zw (aJ 2 (e2 gW (e2 jM (Za 1) (eC (.int 7))) (eC (.int 10)))) (Zw (aK (e2 aN (Za 0) (eC (.str [115,101,116]))) (aX (e2 cJ (eC (.str [115,101,116,32,97,32])) (aG Ba (Zb (Za 2) (Zg))))) (aY)) (Zw (aK (e2 rP (Za 0) (b_ (Zb (eC (.str [101,108,115,101])) (Zb (eC (.str [101,110,100])) (Zg))))) (aX (Za 0)) (aY)) (aX (e2 cJ (e2 cJ (Za 0) (eC (.str [32]))) (aG Ba (Zb (Za 2) (Zg)))))))
def Ce:F3:=bL 2 3 K_
def La:S3:=Zw (aJ 1 (bB iw rO (Za 0) (Zb (eC (.str [32])) (Zg)))) (Zw (aK (e2 aN (e2 Zz (Za 1) (eC (.int 0))) (eC (.str [115,101,116]))) (aX (jb (Zb (eC (.str [115,101,116])) (Zb (eC (.str [97])) (Zb (jb (Zb (aG oU (Zb (e2 Zz (Za 1) (eC (.int 2))) (Zg))) (Zg))) (Zg)))))) (aY)) (aX (jb (Zb (e2 Zz (Za 1) (eC (.int 0))) (Zb (jb (Zb (aG oU (Zb (e2 Zz (Za 1) (eC (.int 1))) (Zg))) (Zg))) (Zg))))))
def Cg:F3:=bL 1 2 La
def Ub:S3:=Zw (aJ 1 (e2 oM (aG bx (Zb (Za 0) (Zg))) (eC (.int 2)))) (Zw (aJ 2 (e2 oM (aG bx (Zb (Za 0) (Zg))) (eC (.int 1)))) (Zw (ye (dz (e1 (m9 .str) (e2 Zz (Za 0) (Za 1))) (dz (e2 Be (e2 Zz (e2 Zz (Za 0) (Za 1)) (eC (.int 0))) (b_ (Zb (eC (.str [119,104,101,110])) (Zb (eC (.str [119,104,105,108,101])) (Zg))))) (e2 jo (aG bx (Zb (e2 Zz (Za 0) (Za 1)) (Zg))) (eC (.int 2))))) (Zw (aK (e2 p8 (e2 Zz (Za 0) (Za 1)) (eC (.str [101,108,115,101]))) (aJ 2 (Za 1)) (aY)) (aJ 1 (e2 oM (Za 1) (eC (.int 1)))))) (Zw (Bc (e2 Zz (Za 0) (Za 1)) (jc [3,4])) (Zw (aJ 5 (jb (Zb (Za 3) (Zb (Za 4) (Zb (aG gY (Zb (dD (Za 0) (bQ (e2 cJ (Za 1) (eC (.int 1)))) (bQ (e2 oM (aG bx (Zb (Za 0) (Zg))) (eC (.int 1))))) (Zg))) (Zg)))))) (Zw (aK (e2 p8 (Za 3) (eC (.str [119,104,101,110]))) (aJ 5 (jb (Zb (Za 3) (Zb (Za 4) (Zb (aG gY (Zb (dD (Za 0) (bQ (e2 cJ (Za 1) (eC (.int 1)))) (bQ (Za 2))) (Zg))) (Zb (aG gY (Zb (dD (Za 0) (bQ (e2 cJ (Za 2) (eC (.int 1)))) (bQ (e2 oM (aG bx (Zb (Za 0) (Zg))) (eC (.int 1))))) (Zg))) (Zg))))))) (aY)) (aX (e2 cJ (dD (Za 0) (gJ) (bQ (Za 1))) (b_ (Zb (Za 5) (Zg))))))))))
def GF:F3:=bL 1 6 Ub
def Uc:S3:=Zw (aJ 1 (b_ (Zg))) (Zw (ul (eQ (Za 0)) (dN 2) (aK (e2 rP (Za 2) (b_ (Zb (eC (.str [101,108,115,101])) (Zb (eC (.str [101,110,100])) (Zg))))) (bV (bB dF d9 (Za 1) (Zb (Za 2) (Zg)))) (aK (e2 iI (Za 2) (eC (.str []))) (bV (bB dF d9 (Za 1) (Zb (bf Cg (Zb (Za 2) (Zg))) (Zg)))) (aY)))) (Zw (aJ 3 (b_ (Zg))) (Zw (ul (eQ (Za 1)) (dN 4) (Zw (bV (bB dF d9 (Za 3) (Zb (Za 4) (Zg)))) (aK (e2 p8 (Za 4) (eC (.str [101,110,100]))) (aJ 3 (bf GF (Zb (Za 3) (Zg)))) (aY)))) (aX (aG gY (Zb (Za 3) (Zg)))))))
def Lb:F3:=bL 1 5 Uc
def Ld:S3:=Zw (aJ 1 (eC .non)) (Zw (aJ 2 (eC .non)) (Zw (yq [[66,97,100,82,111,119]] 3 (aJ 1 (bf yL (pQ (Zb (Za 0) (Zg))))) (aJ 2 (Za 3))) (Zw (aK (e2 Rq (Za 2) (eC .non)) (aX (e1 (Gw [66,97,100,82,111,119] [114,111,119]) (Za 2))) (aY)) (aX (Za 1)))))
def wu:F3:=bL 1 4 Ld
def Ud:S3:=Zw (aJ 1 (b_ (Zg))) (Zw (aJ 2 (b_ (Zg))) (Zw (aJ 3 (eC (.int 0))) (Zw (ul (eQ (dD (Za 0) (gJ) (bQ (eC (.int 400))))) (dN 4) (Zw (aJ 5 (bf GD (Zb (Za 4) (Zb (Za 2) (Zg))))) (Zw (aK (eO (e2 aN (Za 3) (eC (.int 0))) (e1 lX (bf uH (Zb (Za 2) (Zb (Za 5) (Zg)))))) (aJ 3 (e2 cJ (aG bx (Zb (Za 1) (Zg))) (eC (.int 1)))) (aY)) (Zw (aK (e2 aN (Za 3) (eC (.int 0))) (aJ 2 (bf yM (Zb (Za 2) (Zb (Za 5) (Zg))))) (aY)) (Zw (bV (bB dF d9 (Za 1) (Zb (bf Ce (Zb (Za 5) (Zb (Za 4) (Zg)))) (Zg)))) (aK (eO (e2 aN (e2 gW (e2 jM (Za 4) (eC (.int 3))) (eC (.int 13))) (eC (.int 5))) (e2 jN (aG bx (Zb (Za 1) (Zg))) (eC (.int 400)))) (bV (bB dF d9 (Za 1) (Zb (eC (.str [])) (Zg)))) (aY))))))) (Zw (ye (eO (e2 aN (Za 3) (eC (.int 0))) (eO (e2 sO (Za 2) (b_ (Zg))) (e2 aN (e2 gW (aG bx (Zb (Za 0) (Zg))) (eC (.int 2))) (eC (.int 0))))) (Zw (aJ 5 (eC (.str [101,110,100]))) (Zw (aK (e2 aN (e2 Zz (Za 2) (e1 gH (eC (.int 1)))) (eC (.str [119,104,101,110]))) (aJ 5 (eC (.str [101,108,115,101]))) (aY)) (Zw (aJ 2 (bf yM (Zb (Za 2) (Zb (Za 5) (Zg))))) (bV (bB dF d9 (Za 1) (Zb (Za 5) (Zg)))))))) (Zw (aJ 6 (bf wu (Zb (bB iw Bb (eC (.str [10])) (Zb (Za 1) (Zg))) (Zg)))) (Zw (aK (eO (e2 aN (Za 3) (eC (.int 0))) (e2 sO (Za 2) (b_ (Zg)))) (aJ 3 (e2 cJ (aG J7 (Zb (eC (.int 1)) (Zb (aG bx (Zb (Za 1) (Zg))) (Zg)))) (eC (.int 1)))) (aY)) (Zw (aK (e2 jo (Za 3) (eC (.int 0))) (aX (bf K9 (Zb (Za 6) (Zb (Za 3) (Zg))))) (aY)) (aX (bf K9 (Zb (Za 6) (Zb (jb (Zb (jb (Zg)) (Zb (bf Lb (Zb (Za 1) (Zg))) (Zg)))) (Zg))))))))))))
def ZnP:F3:=bL 1 7 Ud
end
end _Law
namespace _Law
open PySem PySem.Spec PyProof.Rows _L2 _L3
noncomputable def top(i:Nat):Ydr:=PySem.Challenge.pw_stepledger_k64_whole_blocks.main.body.getD i (.Pass ⟨0,0,0,0⟩)
noncomputable abbrev qd:Ydr:=top 6
noncomputable abbrev qe:Ydr:=top 9
noncomputable abbrev qi:Ydr:=top 10
noncomputable abbrev qj:Ydr:=top 11
noncomputable abbrev ql:Ydr:=top 12
noncomputable abbrev qm:Ydr:=top 24
noncomputable abbrev qp:Ydr:=top 25
noncomputable abbrev qt:Ydr:=top 26
noncomputable abbrev qw:Ydr:=top 27
noncomputable abbrev qx:Ydr:=top 28
noncomputable abbrev qy:Ydr:=top 29
noncomputable abbrev qz:Ydr:=top 30
noncomputable abbrev qC:Ydr:=top 31
noncomputable abbrev qD:Ydr:=top 33
noncomputable abbrev qF:Ydr:=top 34
noncomputable abbrev qG:Ydr:=top 35
noncomputable abbrev qH:Ydr:=top 36
noncomputable abbrev qI:Ydr:=top 37
noncomputable abbrev qJ:Ydr:=top 38
noncomputable abbrev qK:Ydr:=top 39
noncomputable abbrev qL:Ydr:=top 40
noncomputable abbrev qM:Ydr:=top 41
noncomputable abbrev mH:Ydr:=top 42
noncomputable abbrev yN:Ydr:=(ZnB (top 23)).getD 0 (.Pass ⟨0,0,0,0⟩)
structure GJ(K:wU)(mg:aj->Option Yd)(C:Ys):Prop where
  ok:yE K [66,108,111,99,107] C
  mg:mg "Block" =Ya (.ref C)
  Hw:rF K C (nm [104,101,97,100])
  wN:rF K C (nm [108,105,115,116,115])
noncomputable abbrev sV:Ydr:=(ZnB (top 2)).getD 0 (.Pass ⟨0,0,0,0⟩)
structure GK(K:wU)(mg:aj->Option Yd)(eZ bY iz:Ys):Prop where
  Aak:mg "LedgerError" =Ya (.ref eZ)
  CQ:mg "BadRow" =Ya (.ref bY)
  wM:T3 K [66,97,100,82,111,119] bY eZ iz "row" "BadRow.__init__" sV ["self","row"]
  Ab1:TY K [66,97,100,82,111,119] bY (nm [114,111,119])
  Ab2:∀c C,([[66,97,100,82,111,119]]:List (List Nat)).contains c=true->ClsAt K c C->NZ K (.ref C) (.ref bY)=Ya true
theorem ZfW:dw ["self","row"] ["self","row"] (Zh sV):=⟨rfl,rfl,rfl,by decide +kernel,rfl,by decide +kernel,by decide +kernel⟩
theorem Le{P:aZ}{w:aU}{K:wU}{mg:aj->Option Yd}{base:au}{eZ bY iz:Ys}(XO:GK K mg eZ bY iz):ZpI P w K mg base bY iz "row" ["self","row"]:=by obtain⟨fd,F,b⟩:=XO.wM.fn;exact⟨fd,b,fnI (k:=0) F ZfW rfl λcdv A outer s H E hr=>⟨_,QV (ZnT (ZrW XO.wM.own XO.Aak (oJ (Er (i:=0) rfl (Or.inl rfl)) (oJ (ZrZ (Er (i:=1) rfl (Or.inl rfl))) xY)))) (QW (ZsK XO.wM.own (Er (i:=0) rfl (Or.inl rfl)) (Er (i:=1) rfl (Or.inl rfl)))),λD e i hi he hq=>Zwp rfl hi he hq⟩⟩
structure Txt(K:wU)(mg:aj->Option Yd):Prop where
  xU:True
  zm:mg "all" =Yj
  M7:mg "bool" =Yj
  Mm:mg "enumerate" =Yj
  Hz:mg "int" =Yj
  pA:mg "isinstance" =Yj
  eF:mg "len" =Yj
  V5:mg "list" =Yj
  M_:mg "max" =Yj
  Ab9:mg "range" =Yj
  Acs:mg "set" =Yj
  C_:mg "str" =Yj
  lJ:mg "tuple" =Yj
  uV:∃t,mg "FIGURES" =Ya (.str "0123456789" t)
  wL:∃t,mg "LETTERS" =Ya (.str "abcdefghijklmnopqrstuvwxyz" t)
  V0:∃a,mg "LISTS" =Ya (.ref a)/\lu K a nF
  wJ:∃t,mg "MOST_BLOCKS" =Ya (.int 12 t)
  wK:∃t,mg "MOST_DEPTH" =Ya (.int 6 t)
  qU:∃t,mg "MOST_FIGURES" =Ya (.int 60 t)
  qW:∃t,mg "MOST_LETTERS" =Ya (.int 8 t)
  zb:∃t,mg "MOST_TAKEN" =Ya (.int 6 t)
  uU:∃t,mg "MOST_WORDS" =Ya (.int 60 t)
  V1:∃a,mg "PARTS" =Ya (.ref a)/\lu K a nG
  V6:∃a,mg "SUMS" =Ya (.ref a)/\lu K a nH
  Aca:∃a,mg "WORDS" =Ya (.ref a)/\BL K (p_.map λy=>(⟨y.toArray⟩:aj)) (.ref a)=true
variable{X:Cx}{pos:aP}
theorem ZmE(T:Txt X.K X.mg)(hg:autoParam (Gl X "FIGURES") qA):C3 X (.Name "FIGURES" pos) uV:=by obtain⟨t,e⟩:=T.uV;refine ur (v:=.str ⟨([48,49,50,51,52,53,54,55,56,57]:List Nat).toArray⟩) e ⟨t,?_⟩ (λ_ _=>Rep.str) hg;exact congrArg (λz=>Value.str z t) (by decide +kernel)
theorem Zl9(T:Txt X.K X.mg)(hg:autoParam (Gl X "LETTERS") qA):C3 X (.Name "LETTERS" pos) wL:=by obtain⟨t,e⟩:=T.wL;refine ur (v:=.str ⟨([97,98,99,100,101,102,103,104,105,106,107,108,109,110,111,112,113,114,115,116,117,118,119,120,121,122]:List Nat).toArray⟩) e ⟨t,?_⟩ (λ_ _=>Rep.str) hg;exact congrArg (λz=>Value.str z t) (by decide +kernel)
variable{g:E3}{npos:aP}{e:Expr}
theorem ZmU{e':Expr}{apos cpos:aP}{g':E3}(T:Txt X.K X.mg)(he:C3 X e g)(he':C3 X e' g')(m:M2 X (.Name "LISTS" npos) "get" apos e e' cpos:=by exact⟨rfl,rfl,rfl,rfl⟩)(hg:autoParam (Gl X "LISTS") qA):C3 X (.Call (.Attribute (.Name "LISTS" npos) "get" apos) [e,e'] [] cpos) (e2 (uo nF) g g'):=by obtain⟨a,hm,ht⟩:=T.V0;exact Zno hm ht he he' m hg
theorem Zhv(T:Txt X.K X.mg)(he:C3 X e g)(hg:autoParam (Gl X "LISTS") qA):CT X (.Compare e [.In] [.Name "LISTS" npos] pos) (e1 (uE nF) g):=by obtain⟨a,hm,ht⟩:=T.V0;exact Zry hm ht he hg
theorem Ziy(T:Txt X.K X.mg)(hg:autoParam (Gl X "MOST_BLOCKS") qA):C3 X (.Name "MOST_BLOCKS" pos) wJ:=by obtain⟨t,e⟩:=T.wJ;exact ur (v:=.int 12) e ⟨t,rfl⟩ (λ_ _=>Rep.int) hg
theorem Zi2(T:Txt X.K X.mg)(hg:autoParam (Gl X "MOST_DEPTH") qA):C3 X (.Name "MOST_DEPTH" pos) wK:=by obtain⟨t,e⟩:=T.wK;exact ur (v:=.int 6) e ⟨t,rfl⟩ (λ_ _=>Rep.int) hg
theorem ZhF(T:Txt X.K X.mg)(hg:autoParam (Gl X "MOST_FIGURES") qA):C3 X (.Name "MOST_FIGURES" pos) qU:=by obtain⟨t,e⟩:=T.qU;exact ur (v:=.int 60) e ⟨t,rfl⟩ (λ_ _=>Rep.int) hg
theorem ZhJ(T:Txt X.K X.mg)(hg:autoParam (Gl X "MOST_LETTERS") qA):C3 X (.Name "MOST_LETTERS" pos) qW:=by obtain⟨t,e⟩:=T.qW;exact ur (v:=.int 8) e ⟨t,rfl⟩ (λ_ _=>Rep.int) hg
theorem Zi9(T:Txt X.K X.mg)(hg:autoParam (Gl X "MOST_TAKEN") qA):C3 X (.Name "MOST_TAKEN" pos) zb:=by obtain⟨t,e⟩:=T.zb;exact ur (v:=.int 6) e ⟨t,rfl⟩ (λ_ _=>Rep.int) hg
theorem Zjd(T:Txt X.K X.mg)(hg:autoParam (Gl X "MOST_WORDS") qA):C3 X (.Name "MOST_WORDS" pos) uU:=by obtain⟨t,e⟩:=T.uU;exact ur (v:=.int 60) e ⟨t,rfl⟩ (λ_ _=>Rep.int) hg
theorem Zmr{e':Expr}{apos cpos:aP}{g':E3}(T:Txt X.K X.mg)(he:C3 X e g)(he':C3 X e' g')(m:M2 X (.Name "PARTS" npos) "get" apos e e' cpos:=by exact⟨rfl,rfl,rfl,rfl⟩)(hg:autoParam (Gl X "PARTS") qA):C3 X (.Call (.Attribute (.Name "PARTS" npos) "get" apos) [e,e'] [] cpos) (e2 (uo nG) g g'):=by obtain⟨a,hm,ht⟩:=T.V1;exact Zno hm ht he he' m hg
theorem Zmz(T:Txt X.K X.mg)(he:C3 X e g)(hg:autoParam (Gl X "PARTS") qA):C3 X (.Compare e [.In] [.Name "PARTS" npos] pos) (e1 (uE nG) g):=by obtain⟨a,hm,ht⟩:=T.V1;exact Ztd hm ht he hg
theorem Zja(T:Txt X.K X.mg)(he:C3 X e g)(hg:autoParam (Gl X "SUMS") qA):CT X (.Compare e [.NotIn] [.Name "SUMS" npos] pos) (e1 (KN nH) g):=by obtain⟨a,hm,ht⟩:=T.V6;exact Zlc hm ht he hg
theorem ZoR(T:Txt X.K X.mg)(he:C3 X e g)(hs:JZ e:=by exactλ_ _=>rfl)(hg:autoParam (Gl X "SUMS") qA):C3 X (.Subscript (.Name "SUMS" npos) e pos) (e1 (Gs nH) g):=by obtain⟨a,hm,ht⟩:=T.V6;exact Zsv hm ht he hs hg
theorem ZpE(T:Txt X.K X.mg)(hg:autoParam (Gl X "WORDS") qA):C3 X (.Name "WORDS" pos) uF:=by obtain⟨a,hm,ht⟩:=T.Aca;exact Zr9 hm ht hg
section
variable {P:aZ} {w:aU} {K:wU} {mg:aj->Option Yd} {base:au}
theorem Zgo:dw ["word","figures"] ["word"] (Zh qd):=⟨rfl,rfl,rfl,by decide +kernel,rfl,by decide +kernel,by decide +kernel⟩
theorem Zkt(A:bM K mg "is_number" qd ["word"])(T:Txt K mg):aW P w K mg base 1 "is_number" ["word"] qb:=
  aW.of (N:=["word","figures"]) (k:=0) A Zgo λf cdv A outer s H E hr=>by
    have hu:=gF hr;unfold Gx;refine Zi ?_ ?_
    .exact bO 1 Zgo.nd (FW (mq (Zek (Zd 0) (Zc bw Zf))) (mz mD (Zd 0) (jq Zt) rQ) (Zd 0))
    .refine Zi ?_ ?_
     .refine bW ?_ ?_ ?_
      .refine CW.ct ?_;refine oY ?_ ?_
       .exact bA Bo (dh (id:="len") fJ T.eF eV (Zc (Zd 1) Zf)) Zt
       .exact ut (bA v5 (dh (id:="len") fJ T.eF eV (Zc (Zd 1) Zf)) (ZhF T))
      .exact Zk (bH FT)
      .exact bR
     .refine Zi ?_ ?_
      .exact bW (mq (Zek (Zd 1) (Zc bw Zf))) (Zk (bH (k_ ((dH hu)) (Zd 0) bw))) bR
      .refine Zk ?_;refine bH ?_;refine dh (id:="all") ?_ ?_ ?_ ?_
       .exact(Bv rfl)
       .exact T.zm
       .exact Bu
       .exact Zc (ux (N':=["word","figures","figure"]) (o5 rfl (by kernel_rfl)) rfl rfl (nC (Zd 1)) (λC cl s H ex=>⟨(nu 2 ((show jZ (["word","figures","figure"]:List aj)by decide +kernel))),pX,(k_ ((Sx hu)) (Zd 2) (ZmE T))⟩)) Zf
theorem Ci:dw ["words","sums","lacking","word"] ["words"] (Zh qe):=⟨rfl,rfl,rfl,by decide +kernel,rfl,by decide +kernel,by decide +kernel⟩
theorem ZmG(A:bM K mg "sums_in" qe ["words"])(T:Txt K mg):aW P w K mg base 1 "sums_in" ["words"] wg:=
  aW.of (N:=["words","sums","lacking","word"]) (k:=0) A Ci λf cdv A outer s H E hr=>by
    have hu:=gF hr;unfold T5;refine Zi ?_ ?_
    .exact bO 1 Ci.nd (gw Zf)
    .refine Zi ?_ ?_
     .exact bO 2 Ci.nd Zt
     .refine Zi ?_ ?_
      .refine Kf ?_ ?_ ?_ ?_ ?_
       .exact rfl
       .exact rfl
       .exact nC (Zd 0)
       .exact nu 3 Ci.nd
       .refine Zi ?_ ?_
        .refine bW ?_ ?_ ?_
         .exact bA ((dH hu)) (Zd 2) Zt
         .exact Zi (mC (o4 (Zd 1) (Zc (gw Zf) Zf))) (Zk (bO 2 Ci.nd Zt))
         .exact bR
        .refine Zi ?_ ?_
         .exact mC (o4 (cg cj (Zd 1) (oX oZ Zt)) (Zc (Zd 3) Zf))
         .exact Zk (bO 2 Ci.nd (dg jz (dg Bm (Zd 2) Zt) (Zmr T (Zd 3) Zt)))
      .refine Zk ?_;refine bH ?_;refine FW ?_ ?_ ?_
       .exact bA ((dH hu)) (Zd 2) Zt
       .exact ux (N':=["words","sums","lacking","word","one"]) (o5 rfl (by kernel_rfl)) rfl rfl (nC (Zd 1)) (λC cl s H ex=>⟨(nu 4 ((show jZ (["words","sums","lacking","word","one"]:List aj)by decide +kernel))),pX,(lq (T:="tuple") rY T.lJ rZ (Zc (Zd 4) Zf))⟩)
       .exact nq
theorem Zjj:dw ["word"] ["word"] (Zh qi):=⟨rfl,rfl,rfl,by decide +kernel,rfl,by decide +kernel,by decide +kernel⟩
theorem Zjc(A:bM K mg "needs_sums" qi ["word"])(T:Txt K mg):aW P w K mg base 1 "needs_sums" ["word"] BX:=aW.of (N:=["word"]) (k:=0) A Zjj λf cdv A outer s H E hr=>by have hu:=gF hr;unfold ZgI;exact Zk (bH (Zmz T (Zd 0)))
theorem ZlP:dw ["words"] ["words"] (Zh qj):=⟨rfl,rfl,rfl,by decide +kernel,rfl,by decide +kernel,by decide +kernel⟩
theorem ZlC(A:bM K mg "parts_of" qj ["words"])(T:Txt K mg)(zf:aW P w K mg base 1 "sums_in" ["words"] wg):aW P w K mg base 2 "parts_of" ["words"] K5:=aW.of (N:=["words"]) (k:=1) A ZlP λf cdv A outer s H E hr=>by have hu:=gF hr;unfold T6;exact Zk (bH (fH (k:=1) (ps:=["words"]) zf (hr.mono (by decide)) (Zc (mz mD (Zd 0) (jq Zt) rQ) Zf)))
theorem Ue:dw ["words","parts"] ["words"] (Zh ql):=⟨rfl,rfl,rfl,by decide +kernel,rfl,by decide +kernel,by decide +kernel⟩
theorem Zqh(A:bM K mg "depth" ql ["words"])(T:Txt K mg)(Mu:aW P w K mg base 2 "parts_of" ["words"] K5):aW P w K mg base 64 "depth" ["words"] Gy:=by
  have all:∀n:Nat,aW P w K mg base (n+3) "depth" ["words"] (yI n):=by
    intro n
    induction n with
    |zero=>exact aW.of (N:=["words","parts"]) (k:=2) A Ue λf cdv A outer s H E hr=>ZnK|succ n IH=>
      refine(aW.of (N:=["words","parts"]) (k:=n+3) A Ue λf cdv A outer s H E hr=>?_).mono (by omega);have hu:=gF hr;unfold T7;refine Zi ?_ ?_
      .exact bO 1 Ue.nd (fH (k:=2) (ps:=["words"]) Mu (hr.mono (by omega)) (Zc (Zd 0) Zf))
      .refine Zk ?_;refine bH ?_;refine ZpV ?_ ?_
       .exact T.M_
       .refine Zxu (N':=["words","parts","deeper","part"]) ?_ ?_ ?_ ?_ (λC cl s H ex=>⟨?_,?_,?_⟩)
        .exact o5 rfl (by kernel_rfl)
        .exact rfl
        .exact rfl
        .exact ZnZ T.Mm (Zd 1)
        .exact F_ rfl (rT 2 ((show jZ (["words","parts","deeper","part"]:List aj)by decide +kernel)) (rT 3 ((show jZ (["words","parts","deeper","part"]:List aj)by decide +kernel)) FZ))
        .exact pX
        .exact dg jz (fH (k:=n+3) (ps:=["words"]) IH hr (Zc (Zd 3) Zf)) (Zd 2)
  exact all 61
theorem ZmY:dw ["word"] ["word"] (Zh qt):=⟨rfl,rfl,rfl,by decide +kernel,rfl,by decide +kernel,by decide +kernel⟩
theorem Zma(A:bM K mg "is_name" qt ["word"])(T:Txt K mg):aW P w K mg base 1 "is_name" ["word"] nJ:=
  aW.of (N:=["word"]) (k:=0) A ZmY λf cdv A outer s H E hr=>by
    have hu:=gF hr;unfold K6;refine Zi ?_ ?_
    .refine bW ?_ ?_ ?_
     .refine CW.ct ?_;refine oY ?_ ?_
      .exact bA Bo (dh (id:="len") fJ T.eF eV (Zc (Zd 0) Zf)) Zt
      .refine oY ?_ ?_
       .exact bA v5 (dh (id:="len") fJ T.eF eV (Zc (Zd 0) Zf)) (ZhJ T)
       .exact ut (bA ((Sx hu)) (Zd 0) (ZpE T))
     .exact Zk (bH FT)
     .exact bR
    .refine Zk ?_;refine bH ?_;refine dh (id:="all") ?_ ?_ ?_ ?_
     .exact(Bv rfl)
     .exact T.zm
     .exact Bu
     .exact Zc (ux (N':=["word","letter"]) (o5 rfl (by kernel_rfl)) rfl rfl (nC (Zd 0)) (λC cl s H ex=>⟨(nu 1 ((show jZ (["word","letter"]:List aj)by decide +kernel))),pX,(k_ ((Sx hu)) (Zd 1) (Zl9 T))⟩)) Zf
theorem ZfN:dw ["row","names"] ["row"] (Zh qp):=⟨rfl,rfl,rfl,by decide +kernel,rfl,by decide +kernel,by decide +kernel⟩
theorem Zjl(A:bM K mg "read_taken" qp ["row"])(T:Txt K mg){eZ bY iz:Ys}(XO:GK K mg eZ bY iz)(tD:aW P w K mg base 1 "is_name" ["word"] nJ):mF P w K mg base 3 "read_taken" ["row"] T8:=
  mF.of (N:=["row","names"]) (k:=2) A ZfN λf cdv A outer s H E hr=>by
    have hu:=gF hr;unfold ZgH;refine nD ?_ ?_
    .exact sG (bO 1 ZfN.nd (mz mD (cg cj (Zd 0) Zt) (jq Zt) rQ))
    .refine nD ?_ ?_
     .refine Gp ?_ ?_ ?_
      .refine CW.ct ?_;refine oY ?_ ?_
       .exact bA Bo (dh (id:="len") fJ T.eF eV (Zc (Zd 1) Zf)) Zt
       .refine oY ?_ ?_
        .exact bA v5 (dh (id:="len") fJ T.eF eV (Zc (Zd 1) Zf)) (Zi9 T)
        .exact ut (bA ((Bs hu)) (ZpG T.eF T.Acs (Zd 1)) (dh (id:="len") fJ T.eF eV (Zc (Zd 1) Zf)))
      .exact sH (K4 (C:=bY) (fI:=iz) (fn:="row") (CL:=eZ) (qual:="BadRow.__init__") (st:=sV) (ps:=["self","row"]) XO.wM (Le XO) (hr.mono (by decide)) XO.CQ (Zc (cg cj (Zd 0) Zt) Zf))
      .exact Gn bR
     .refine nD ?_ ?_
      .refine Gp ?_ ?_ ?_
       .refine Bh ?_;refine mq ?_;refine dh (id:="all") ?_ ?_ ?_ ?_
        .exact(Bv rfl)
        .exact T.zm
        .exact Bu
        .refine Zc ?_ ?_
         .exact ux (N':=["row","names","name"]) (o5 rfl (by kernel_rfl)) rfl rfl (nC (Zd 1)) (λC cl s H ex=>⟨(nu 2 ((show jZ (["row","names","name"]:List aj)by decide +kernel))),pX,(fH (k:=1) (ps:=["word"]) tD (hr.mono (by decide)) (Zc (Zd 2) Zf))⟩)
         .exact Zf
       .exact sH (K4 (C:=bY) (fI:=iz) (fn:="row") (CL:=eZ) (qual:="BadRow.__init__") (st:=sV) (ps:=["self","row"]) XO.wM (Le XO) (hr.mono (by decide)) XO.CQ (Zc (cg cj (Zd 0) Zt) Zf))
       .exact Gn bR
      .exact sH (sG (bH (lq (T:="tuple") rY T.lJ rZ (Zc (Zd 1) Zf))))
theorem Zgs:dw ["self","head"] ["self","head"] (Zh yN):=⟨rfl,rfl,rfl,by decide +kernel,rfl,by decide +kernel,by decide +kernel⟩
theorem Zgg{cL:Ys}(di:GJ K mg cL)(A:Kz K cL "Block.__init__" yN ["self","head"])(T:Txt K mg):yF P w K mg base 1 cL ["self","head"] wj:=yF.of (N:=["self","head"]) (k:=0) A Zgs λf cdv A outer s H E hr=>by have hu:=gF hr;unfold Zel;exact Zi (ZqD (C:=cL) (c:=[66,108,111,99,107]) (m:=[104,101,97,100]) di.ok di.Hw (Zd 0) (Zd 1)) (Zk (ZqD (C:=cL) (c:=[66,108,111,99,107]) (m:=[108,105,115,116,115]) di.ok di.wN (Zd 0) (gw (Zc (gw Zf) Zf))))
theorem Ug:dw ["words","sums","depths"] ["words"] (Zh qy):=⟨rfl,rfl,rfl,by decide +kernel,rfl,by decide +kernel,by decide +kernel⟩
theorem Zkj(A:bM K mg "read_sums" qy ["words"])(T:Txt K mg)(Hr:aW P w K mg base 1 "is_number" ["word"] qb)(zf:aW P w K mg base 1 "sums_in" ["words"] wg)(Mi:aW P w K mg base 1 "needs_sums" ["word"] BX)(MT:aW P w K mg base 64 "depth" ["words"] Gy)(tD:aW P w K mg base 1 "is_name" ["word"] nJ):aW P w K mg base 65 "read_sums" ["words"] K7:=
  aW.of (N:=["words","sums","depths"]) (k:=64) A Ug λf cdv A outer s H E hr=>by
    have hu:=gF hr;unfold T9;refine Zi ?_ ?_
    .refine bW ?_ ?_ ?_
     .refine Bh ?_;refine mq ?_;refine dh (id:="all") ?_ ?_ ?_ ?_
      .exact(Bv rfl)
      .exact T.zm
      .exact Bu
      .refine Zc ?_ ?_
       .refine ux (N':=["words","sums","depths","word"]) ?_ ?_ ?_ ?_ (λC cl s H ex=>⟨?_,?_,?_⟩)
        .exact o5 rfl (by kernel_rfl)
        .exact rfl
        .exact rfl
        .exact nC (Zd 0)
        .exact nu 3 ((show jZ (["words","sums","depths","word"]:List aj)by decide +kernel))
        .exact pX
        .refine ZwQ ?_ ?_
         .exact fH (k:=1) (ps:=["word"]) Mi (hr.mono (by decide)) (Zc (Zd 3) Zf)
         .exact ZwQ (fH (k:=1) (ps:=["word"]) tD (hr.mono (by decide)) (Zc (Zd 3) Zf)) (vY (fH (k:=1) (ps:=["word"]) Hr (hr.mono (by decide)) (Zc (Zd 3) Zf)))
       .exact Zf
     .exact Zk (bH nq)
     .exact bR
    .refine Zi ?_ ?_
     .refine bO 1 ?_ ?_
      .exact Ug.nd
      .refine fH (k:=1) (ps:=["words"]) ?_ ?_ ?_
       .exact zf
       .exact hr.mono (by decide)
       .refine Zc ?_ ?_
        .refine ux (N':=["words","sums","depths","word"]) ?_ ?_ ?_ ?_ (λC cl s H ex=>⟨?_,?_,?_⟩)
         .exact o5 rfl (by kernel_rfl)
         .exact rfl
         .exact rfl
         .exact nC (Zd 0)
         .exact nu 3 ((show jZ (["words","sums","depths","word"]:List aj)by decide +kernel))
         .exact pX
         .exact FW (mq (fH (k:=1) (ps:=["word"]) Hr (hr.mono (by decide)) (Zc (Zd 3) Zf))) (lq (T:="int") S8 T.Hz Sy (Zc (Zd 3) Zf)) (Zd 3)
        .exact Zf
     .refine Zi ?_ ?_
      .exact bW (bA R0 (Zd 1) nq) (Zk (bH nq)) bR
      .refine Zi ?_ ?_
       .refine ZjS (N':=["words","sums","depths","deeper","one"]) 2 ?_ ?_ ?_ ?_ ?_ (λC cl s H ex=>⟨?_,?_,?_⟩)
        .exact o5 rfl (by kernel_rfl)
        .exact rfl
        .exact rfl
        .exact Ug.nd
        .exact ZnZ T.Mm (Zd 1)
        .exact F_ rfl (rT 3 ((show jZ (["words","sums","depths","deeper","one"]:List aj)by decide +kernel)) (rT 4 ((show jZ (["words","sums","depths","deeper","one"]:List aj)by decide +kernel)) FZ))
        .exact pX
        .exact dg jz (fH (k:=64) (ps:=["words"]) MT (hr.mono (by decide)) (Zc (Zd 4) Zf)) (Zd 3)
       .exact Zk (bH (FW (bA Zwb (ZpV T.M_ (Zd 2)) (Zi2 T)) (Zd 1) nq))
theorem Uh:dw ["words","begin","sums"] ["words"] (Zh qx):=⟨rfl,rfl,rfl,by decide +kernel,rfl,by decide +kernel,by decide +kernel⟩
theorem ZjZ(A:bM K mg "read_deed" qx ["words"])(T:Txt K mg)(tD:aW P w K mg base 1 "is_name" ["word"] nJ)(Mp:aW P w K mg base 65 "read_sums" ["words"] K7):aW P w K mg base 66 "read_deed" ["words"] Gz:=
  aW.of (N:=["words","begin","sums"]) (k:=65) A Uh λf cdv A outer s H E hr=>by
    have hu:=gF hr;unfold T_;refine Zi ?_ ?_
    .refine bW ?_ ?_ ?_
     .refine CW.ct ?_;refine oY ?_ ?_
      .exact Zja T (cg cj (Zd 0) Zt)
      .exact ut (bA v5 (dh (id:="len") fJ T.eF eV (Zc (Zd 0) Zf)) (Zjd T))
     .exact Zk (bH nq)
     .exact bR
    .refine Zi ?_ ?_
     .exact bO 1 Uh.nd (FW (bA ((dH hu)) (cg cj (Zd 0) Zt) bw) Zt Zt)
     .refine Zi ?_ ?_
      .refine bW ?_ ?_ ?_
       .refine Bh ?_;refine mq ?_;refine dh (id:="all") ?_ ?_ ?_ ?_
        .exact(Bv rfl)
        .exact T.zm
        .exact Bu
        .refine Zc ?_ ?_
         .refine ux (N':=["words","begin","sums","word"]) ?_ ?_ ?_ ?_ (λC cl s H ex=>⟨?_,?_,?_⟩)
          .exact o5 rfl (by kernel_rfl)
          .exact rfl
          .exact rfl
          .exact nC (mz mD (Zd 0) (jq Zt) (jq (Zd 1)))
          .exact nu 3 ((show jZ (["words","begin","sums","word"]:List aj)by decide +kernel))
          .exact pX
          .exact fH (k:=1) (ps:=["word"]) tD (hr.mono (by decide)) (Zc (Zd 3) Zf)
         .exact Zf
       .exact Zk (bH nq)
       .exact bR
      .refine Zi ?_ ?_
       .exact bO 2 Uh.nd (fH (k:=65) (ps:=["words"]) Mp (hr.mono (by decide)) (Zc (mz mD (Zd 0) (jq (Zd 1)) rQ) Zf))
       .refine Zi ?_ ?_
        .refine bW ?_ ?_ ?_
         .refine CW.ct ?_;refine oY ?_ ?_
          .exact bA R0 (Zd 2) nq
          .exact ut (bA ((Bs hu)) (dh (id:="len") fJ T.eF eV (Zc (Zd 2) Zf)) (ZoR T (cg cj (Zd 0) Zt)))
         .exact Zk (bH nq)
         .exact bR
        .refine Zk ?_;exact bH (lq (T:="tuple") rY T.lJ rZ (Zc (dg jz (mz mD (Zd 0) rQ (jq (Zd 1))) (Zd 2)) Zf))
theorem Ui:dw ["blocks","word","inner","full"] ["blocks","word"] (Zh qz):=⟨rfl,rfl,rfl,by decide +kernel,rfl,by decide +kernel,by decide +kernel⟩
theorem Zkm(A:bM K mg "can_stand" qz ["blocks","word"])(T:Txt K mg){cL:Ys}(di:GJ K mg cL):aW P w K mg base 1 "can_stand" ["blocks","word"] yJ:=
  aW.of (N:=["blocks","word","inner","full"]) (k:=0) A Ui λf cdv A outer s H E hr=>by
    have hu:=gF hr;unfold Ua;refine Zi ?_ ?_
    .exact bO 2 Ui.nd (cg cj (Zd 0) (oX oZ Zt))
    .refine Zi ?_ ?_
     .refine bO 3 ?_ ?_
      .exact Ui.nd
      .refine k_ ?_ ?_ ?_
       .exact(dH hu)
       .exact ZmU T (cg cj (uz (C:=cL) (c:=[66,108,111,99,107]) (m:=[104,101,97,100]) di.ok di.Hw (Zd 2)) Zt) Zt
       .exact dh (id:="len") fJ T.eF eV (Zc (uz (C:=cL) (c:=[66,108,111,99,107]) (m:=[108,105,115,116,115]) di.ok di.wN (Zd 2)) Zf)
     .refine Zi ?_ ?_
      .refine bW ?_ ?_ ?_
       .exact Zhv T (Zd 1)
       .exact Zk (bH (k_ Zwb (dh (id:="len") fJ T.eF eV (Zc (Zd 0) Zf)) (Ziy T)))
       .exact bR
      .refine Zi ?_ ?_
       .refine bW ?_ ?_ ?_
        .exact bA ((dH hu)) (Zd 1) bw
        .exact Zk (bH (vZ (k_ ((dH hu)) (cg cj (uz (C:=cL) (c:=[66,108,111,99,107]) (m:=[104,101,97,100]) di.ok di.Hw (Zd 2)) Zt) bw) (vY (ZtI (Zd 3)))))
        .exact bR
       .exact Zi (bW (bA ((dH hu)) (Zd 1) bw) (Zk (bH (Zd 3))) bR) (Zk (bH FT))
theorem Uj:dw ["blocks","deed","inner","whole"] ["blocks","deed"] (Zh qC):=⟨rfl,rfl,rfl,by decide +kernel,rfl,by decide +kernel,by decide +kernel⟩
theorem Zjh(A:bM K mg "place_deed" qC ["blocks","deed"])(T:Txt K mg){cL:Ys}(di:GJ K mg cL)(za:yF P w K mg base 1 cL ["self","head"] wj):aW P w K mg base 3 "place_deed" ["blocks","deed"] uG:=
  aW.of (N:=["blocks","deed","inner","whole"]) (k:=2) A Uj λf cdv A outer s H E hr=>by
    have hu:=gF hr;unfold yK;refine Zi ?_ ?_
    .exact bO 2 Uj.nd (cg cj (Zd 0) (oX oZ Zt))
    .refine Zk ?_;refine bW ?_ ?_ ?_
     .exact Zhv T (cg cj (Zd 1) Zt)
     .exact Zk (mC (o4 (Zd 0) (Zc (ZwA (C:=cL) (c:=[66,108,111,99,107]) (k:=1) (ps:=["self","head"]) di.ok za di.mg (hr.mono (by decide)) (Zc (Zd 1) Zf)) Zf)))
     .refine Zk ?_;refine bW ?_ ?_ ?_
      .exact bA ((dH hu)) (cg cj (Zd 1) Zt) bw
      .exact Zk (mC (o4 (uz (C:=cL) (c:=[66,108,111,99,107]) (m:=[108,105,115,116,115]) di.ok di.wN (Zd 2)) (Zc (gw Zf) Zf)))
      .refine Zk ?_;refine bW ?_ ?_ ?_
       .exact bA ((dH hu)) (cg cj (Zd 1) Zt) bw
       .refine Zi ?_ ?_
        .exact mC (ZmT (Zd 0))
        .refine Zi ?_ ?_
         .refine bO 3 ?_ ?_
          .exact Uj.nd
          .refine dg ?_ ?_ ?_
           .exact jz
           .exact uz (C:=cL) (c:=[66,108,111,99,107]) (m:=[104,101,97,100]) di.ok di.Hw (Zd 2)
           .refine lq (T:="tuple") ?_ ?_ ?_ ?_
            .exact rY
            .exact T.lJ
            .exact rZ
            .refine Zc ?_ ?_
             .refine ux (N':=["blocks","deed","inner","whole","deeds"]) ?_ ?_ ?_ ?_ (λC cl s H ex=>⟨?_,?_,?_⟩)
              .exact o5 rfl (by kernel_rfl)
              .exact rfl
              .exact rfl
              .exact nC (uz (C:=cL) (c:=[66,108,111,99,107]) (m:=[108,105,115,116,115]) di.ok di.wN (Zd 2))
              .exact nu 4 ((show jZ (["blocks","deed","inner","whole","deeds"]:List aj)by decide +kernel))
              .exact pX
              .exact lq (T:="tuple") rY T.lJ rZ (Zc (Zd 4) Zf)
             .exact Zf
         .refine Zk ?_;refine mC ?_;refine o4 ?_ ?_
          .exact cg cj (uz (C:=cL) (c:=[66,108,111,99,107]) (m:=[108,105,115,116,115]) di.ok di.wN (cg cj (Zd 0) (oX oZ Zt))) (oX oZ Zt)
          .exact Zc (Zd 3) Zf
       .exact Zk (mC (o4 (cg cj (uz (C:=cL) (c:=[66,108,111,99,107]) (m:=[108,105,115,116,115]) di.ok di.wN (Zd 2)) (oX oZ Zt)) (Zc (Zd 1) Zf)))
theorem GP:dw ["rows","behind","blocks","number","words","deed"] ["rows","behind"] (Zh qw):=⟨rfl,rfl,rfl,by decide +kernel,rfl,by decide +kernel,by decide +kernel⟩
theorem Zi5(A:bM K mg "read_deeds" qw ["rows","behind"])(T:Txt K mg){cL:Ys}(di:GJ K mg cL){eZ bY iz:Ys}(XO:GK K mg eZ bY iz)(za:yF P w K mg base 1 cL ["self","head"] wj)(Mq:aW P w K mg base 66 "read_deed" ["words"] Gz)(Mr:aW P w K mg base 1 "can_stand" ["blocks","word"] yJ)(Mj:aW P w K mg base 3 "place_deed" ["blocks","deed"] uG):mF P w K mg base 67 "read_deeds" ["rows","behind"] wk:=
  mF.of (N:=["rows","behind","blocks","number","words","deed"]) (k:=66) A GP λf cdv A outer s H E hr=>by
    have hu:=gF hr;unfold GC;refine nD ?_ ?_
    .refine sG ?_;exact bO 2 GP.nd (gw (Zc (ZwA (C:=cL) (c:=[66,108,111,99,107]) (k:=1) (ps:=["self","head"]) di.ok za di.mg (hr.mono (by decide)) (Zc (pU (Zc bw Zf)) Zf)) Zf))
    .refine nD ?_ ?_
     .refine ZsU ?_ ?_ ?_ ?_ ?_
      .exact PassesOwn.leaving
      .exact rfl
      .exact nC (Zd 0)
      .exact F_ rfl (rT 3 GP.nd (rT 4 GP.nd FZ))
      .refine nD ?_ ?_
       .exact sG (bO 5 GP.nd (fH (k:=66) (ps:=["words"]) Mq (hr.mono (by decide)) (Zc (Zd 4) Zf)))
       .refine nD ?_ ?_
        .refine Gp ?_ ?_ ?_
         .refine CW.ct ?_;refine oY ?_ ?_
          .exact bA R0 (Zd 5) nq
          .exact ut (Bh (mq (fH (k:=1) (ps:=["blocks","word"]) Mr (hr.mono (by decide)) (Zc (Zd 2) (Zc (cg cj (Zd 5) Zt) Zf)))))
         .exact sH (K4 (C:=bY) (fI:=iz) (fn:="row") (CL:=eZ) (qual:="BadRow.__init__") (st:=sV) (ps:=["self","row"]) XO.wM (Le XO) (hr.mono (by decide)) XO.CQ (Zc (Zd 3) Zf))
         .exact Gn bR
        .exact sH (sG (mC (fH (k:=3) (ps:=["blocks","deed"]) Mj (hr.mono (by decide)) (Zc (Zd 2) (Zc (Zd 5) Zf)))))
     .refine nD ?_ ?_
      .refine Gp ?_ ?_ ?_
       .exact bA v5 (dh (id:="len") fJ T.eF eV (Zc (Zd 2) Zf)) Zt
       .exact sH (K4 (C:=bY) (fI:=iz) (fn:="row") (CL:=eZ) (qual:="BadRow.__init__") (st:=sV) (ps:=["self","row"]) XO.wM (Le XO) (hr.mono (by decide)) XO.CQ (Zc (Zd 1) Zf))
       .exact Gn bR
      .refine sH ?_;refine sG ?_;refine bH ?_;exact lq (T:="tuple") rY T.lJ rZ (Zc (cg cj (uz (C:=cL) (c:=[66,108,111,99,107]) (m:=[108,105,115,116,115]) di.ok di.wN (cg cj (Zd 2) Zt)) Zt) Zf)
theorem Cj:dw ["text","lines","rows","taken"] ["text"] (Zh qm):=⟨rfl,rfl,rfl,by decide +kernel,rfl,by decide +kernel,by decide +kernel⟩
theorem ZrQ(A:bM K mg "read" qm ["text"])(T:Txt K mg)(Ho:mF P w K mg base 3 "read_taken" ["row"] T8)(Hq:mF P w K mg base 67 "read_deeds" ["rows","behind"] wk):mF P w K mg base 68 "read" ["text"] yL:=
  mF.of (N:=["text","lines","rows","taken"]) (k:=67) A Cj λf cdv A outer s H E hr=>by
    have hu:=gF hr;unfold K8;refine nD ?_ ?_
    .exact sG (bO 1 Cj.nd (Tc (Zd 0) (Zc bw Zf)))
    .refine nD ?_ ?_
     .refine sG ?_;refine ZjS (N':=["text","lines","rows","taken","number","line"]) 2 ?_ ?_ ?_ ?_ ?_ (λC cl s H ex=>⟨?_,?_,?_⟩)
      .exact o5 rfl (by kernel_rfl)
      .exact rfl
      .exact rfl
      .exact Cj.nd
      .exact ZpC T.Mm (Zd 1)
      .exact F_ rfl (rT 4 ((show jZ (["text","lines","rows","taken","number","line"]:List aj)by decide +kernel)) (rT 5 ((show jZ (["text","lines","rows","taken","number","line"]:List aj)by decide +kernel)) FZ))
      .exact Zsy (bA ((Bs hu)) (Zd 5) bw)
      .exact pU (Zc (Zd 4) (Zc (Tc (Zd 5) (Zc bw Zf)) Zf))
     .refine nD ?_ ?_
      .exact sG (bO 3 Cj.nd (pU Zf))
      .refine nD ?_ ?_
       .refine Gp ?_ ?_ ?_
        .refine CW.ct ?_;refine yt ?_ ?_
         .exact bA v5 (dh (id:="len") fJ T.eF eV (Zc (Zd 2) Zf)) Zt
         .exact Bg (bA ((dH hu)) (cg cj (cg cj (cg cj (Zd 2) Zt) Zt) Zt) bw)
        .refine nD ?_ ?_
         .exact Znn 3 Cj.nd (Tq (k:=3) (ps:=["row"]) Ho (hr.mono (by decide)) (Zc (cg cj (Zd 2) Zt) Zf))
         .exact sH (sG (bO 2 Cj.nd (mz mD (Zd 2) (jq Zt) rQ)))
        .exact Gn bR
       .refine sH ?_;refine ZsA ?_;refine Zvc ?_ ?_
        .exact Zd 3
        .refine Tq (k:=67) (ps:=["rows","behind"]) ?_ ?_ ?_
         .exact Hq
         .exact hr.mono (by decide)
         .exact Zc (Zd 2) (Zc (dg jz (dh (id:="len") fJ T.eF eV (Zc (Zd 1) Zf)) Zt) Zf)
theorem ZgQ:dw ["found","due"] ["found","due"] (Zh qD):=⟨rfl,rfl,rfl,by decide +kernel,rfl,by decide +kernel,by decide +kernel⟩
theorem Zj9(A:bM K mg "_law_same" qD ["found","due"])(T:Txt K mg):aW P w K mg base 32 "_law_same" ["found","due"] K9:=by
  have all:∀n:Nat,aW P w K mg base (n+1) "_law_same" ["found","due"] (o7 n):=by
    intro n
    induction n with
    |zero=>exact aW.of (N:=["found","due"]) (k:=0) A ZgQ λf cdv A outer s H E hr=>ZnK|succ n IH=>
      refine(aW.of (N:=["found","due"]) (k:=n+1) A ZgQ λf cdv A outer s H E hr=>?_).mono (by omega);have hu:=gF hr;unfold sU;refine Zi ?_ ?_
      .refine bW ?_ ?_ ?_
       .exact mq (ZnD .tuple .list T.pA T.lJ T.V5 (Zd 1))
       .refine Zi ?_ ?_
        .refine bW ?_ ?_ ?_
         .refine CW.ct ?_;refine oY ?_ ?_
          .exact bA ((Bs hu)) (uy .tuple T.pA T.lJ (Zd 0)) (uy .tuple T.pA T.lJ (Zd 1))
          .exact ut (Bh (mq (ZnD .tuple .list T.pA T.lJ T.V5 (Zd 0))))
         .exact Zk (bH FT)
         .exact bR
        .refine Zk ?_;refine bH ?_;refine vZ ?_ ?_
         .exact k_ ((dH hu)) (dh (id:="len") fJ T.eF eV (Zc (Zd 0) Zf)) (dh (id:="len") fJ T.eF eV (Zc (Zd 1) Zf))
         .refine vY ?_;refine dh (id:="all") ?_ ?_ ?_ ?_
          .exact(Bv rfl)
          .exact T.zm
          .exact Bu
          .refine Zc ?_ ?_
           .refine ux (N':=["found","due","k"]) ?_ ?_ ?_ ?_ (λC cl s H ex=>⟨?_,?_,?_⟩)
            .exact o5 rfl (by kernel_rfl)
            .exact rfl
            .exact rfl
            .exact ZoL T.Ab9 (dh (id:="len") fJ T.eF eV (Zc (Zd 1) Zf))
            .exact nu 2 ((show jZ (["found","due","k"]:List aj)by decide +kernel))
            .exact pX
            .exact fH (k:=n+1) (ps:=["found","due"]) IH hr (Zc (cg cj (Zd 0) (Zd 2)) (Zc (cg cj (Zd 1) (Zd 2)) Zf))
           .exact Zf
       .exact bR
      .refine Zi ?_ ?_
       .refine bW ?_ ?_ ?_
        .exact mq (uy .str T.pA T.C_ (Zd 1))
        .exact Zk (bH (vZ (uy .str T.pA T.C_ (Zd 0)) (vY (k_ ((dH hu)) (Zd 0) (Zd 1)))))
        .exact bR
       .refine Zi ?_ ?_
        .refine bW ?_ ?_ ?_
         .exact mq (uy .bool T.pA T.M7 (Zd 1))
         .exact Zk (bH (vZ (uy .bool T.pA T.M7 (Zd 0)) (vY (k_ ((dH hu)) (Zd 0) (Zd 1)))))
         .exact bR
        .refine Zk ?_;refine bH ?_;exact vZ (uy .int T.pA T.Hz (Zd 0)) (vZ (ZtI (uy .bool T.pA T.M7 (Zd 0))) (vY (k_ ((dH hu)) (Zd 0) (Zd 1))))
  exact all 31
theorem Zly:dw ["stack","word"] ["stack","word"] (Zh qF):=⟨rfl,rfl,rfl,by decide +kernel,rfl,by decide +kernel,by decide +kernel⟩
theorem Zlo(A:bM K mg "_law_may" qF ["stack","word"])(T:Txt K mg):aW P w K mg base 1 "_law_may" ["stack","word"] uH:=
  aW.of (N:=["stack","word"]) (k:=0) A Zly λf cdv A outer s H E hr=>by
    have hu:=gF hr;unfold BZ;refine Zi ?_ ?_
    .refine bW ?_ ?_ ?_
     .exact bA Ky (Zd 1) (gw (Zc bw (Zc bw Zf)))
     .exact Zk (bH (k_ Bo (dh (id:="len") fJ T.eF eV (Zc (Zd 0) Zf)) Zt))
     .exact bR
    .refine Zi ?_ ?_
     .refine bW ?_ ?_ ?_
      .exact bA ((dH hu)) (Zd 1) bw
      .refine Zk ?_;refine bH ?_;exact vZ (k_ ((KY hu)) (Zd 0) (gw Zf)) (vY (k_ ((dH hu)) (cg cj (Zd 0) (oX oZ Zt)) bw))
      .exact bR
     .refine Zi ?_ ?_
      .refine bW ?_ ?_ ?_
       .exact bA ((dH hu)) (Zd 1) bw
       .refine Zk ?_;refine bH ?_;exact vZ (k_ ((KY hu)) (Zd 0) (gw Zf)) (vY (k_ ((Bs hu)) (cg cj (Zd 0) (oX oZ Zt)) bw))
       .exact bR
      .exact Zk (bH FT)
theorem ZiE:dw ["stack","word"] ["stack","word"] (Zh qG):=⟨rfl,rfl,rfl,by decide +kernel,rfl,by decide +kernel,by decide +kernel⟩
theorem Ziu(A:bM K mg "_law_stands" qG ["stack","word"])(T:Txt K mg):aW P w K mg base 1 "_law_stands" ["stack","word"] yM:=
  aW.of (N:=["stack","word"]) (k:=0) A ZiE λf cdv A outer s H E hr=>by
    have hu:=gF hr;unfold B_;refine Zi ?_ ?_
    .refine bW ?_ ?_ ?_
     .exact bA Ky (Zd 1) (gw (Zc bw (Zc bw Zf)))
     .exact Zk (bH (dg jz (Zd 0) (gw (Zc (Zd 1) Zf))))
     .exact bR
    .refine Zi ?_ ?_
     .refine bW ?_ ?_ ?_
      .exact bA ((dH hu)) (Zd 1) bw
      .exact Zk (bH (dg jz (mz mD (Zd 0) rQ (jq (oX oZ Zt))) (gw (Zc bw Zf))))
      .exact bR
     .refine Zi ?_ ?_
      .exact bW (bA ((dH hu)) (Zd 1) bw) (Zk (bH (mz mD (Zd 0) rQ (jq (oX oZ Zt))))) bR
      .exact Zk (bH (Zd 0))
theorem Uk:dw ["cell","stack","word"] ["cell","stack"] (Zh qH):=⟨rfl,rfl,rfl,by decide +kernel,rfl,by decide +kernel,by decide +kernel⟩
theorem Zji(A:bM K mg "_law_drawn" qH ["cell","stack"])(T:Txt K mg)(zc:aW P w K mg base 1 "_law_may" ["stack","word"] uH):aW P w K mg base 2 "_law_drawn" ["cell","stack"] GD:=
  aW.of (N:=["cell","stack","word"]) (k:=1) A Uk λf cdv A outer s H E hr=>by
    have hu:=gF hr;unfold Ca;refine Zi ?_ ?_
    .refine bO 2 ?_ ?_
     .exact Uk.nd
     .refine cg ?_ ?_ ?_
      .exact cj
      .refine gw ?_;refine Zc ?_ ?_
       .exact bw
       .refine Zc ?_ ?_
        .exact bw
        .refine Zc ?_ ?_
         .exact bw
         .refine Zc ?_ ?_
          .exact bw
          .exact Zc bw (Zc bw (Zc bw (Zc bw (Zc bw (Zc bw (Zc bw Zf))))))
      .exact dg yw (dg Gf (Zd 0) Zt) Zt
    .refine Zi ?_ ?_
     .refine bW ?_ ?_ ?_
      .refine CW.ct ?_;refine yt ?_ ?_
       .exact bA ((dH hu)) (dg yw (dg Gf (Zd 0) Zt) Zt) Zt
       .exact Bg (bA Bo (dh (id:="len") fJ T.eF eV (Zc (Zd 1) Zf)) Zt)
      .exact Zk (bO 2 Uk.nd bw)
      .exact bR
     .refine Zi ?_ ?_
      .refine bW ?_ ?_ ?_
       .refine CW.ct ?_;refine oY ?_ ?_
        .exact bA ((dH hu)) (dg yw (Zd 0) Zt) Zt
        .exact ut (mq (fH (k:=1) (ps:=["stack","word"]) zc (hr.mono (by decide)) (Zc (Zd 1) (Zc (Zd 2) Zf))))
       .exact Zk (bH (Zd 2))
       .exact bR
      .refine Zi ?_ ?_
       .refine bW ?_ ?_ ?_
        .exact bA ((dH hu)) (Zd 1) (gw Zf)
        .refine Zk ?_;exact bH (cg cj (gw (Zc bw (Zc bw Zf))) (dg yw (dg Gf (Zd 0) Zt) Zt))
        .exact bR
       .refine Zi ?_ ?_
        .exact bW (bA ((dH hu)) (cg cj (Zd 1) (oX oZ Zt)) bw) (Zk (bH bw)) bR
        .exact Zk (bH bw)
theorem ZhC:dw ["word","cell","more"] ["word","cell"] (Zh qI):=⟨rfl,rfl,rfl,by decide +kernel,rfl,by decide +kernel,by decide +kernel⟩
theorem ZlJ(A:bM K mg "_law_row" qI ["word","cell"])(T:Txt K mg):aW P w K mg base 1 "_law_row" ["word","cell"] Ce:=
  aW.of (N:=["word","cell","more"]) (k:=0) A ZhC λf cdv A outer s H E hr=>by
    have hu:=gF hr;unfold K_;refine Zi ?_ ?_
    .exact bO 2 ZhC.nd (dg yw (dg Gf (Zd 1) Zt) Zt)
    .refine Zi ?_ ?_
     .refine bW ?_ ?_ ?_
      .exact bA ((dH hu)) (Zd 0) bw
      .exact Zk (bH (dg jz bw (lq (T:="str") ZtJ T.C_ Zqt (Zc (Zd 2) Zf))))
      .exact bR
     .refine Zi ?_ ?_
      .exact bW (bA Ky (Zd 0) (gw (Zc bw (Zc bw Zf)))) (Zk (bH (Zd 0))) bR
      .exact Zk (bH (dg jz (dg jz (Zd 0) bw) (lq (T:="str") ZtJ T.C_ Zqt (Zc (Zd 2) Zf))))
theorem Zgf:dw ["row","words"] ["row"] (Zh qJ):=⟨rfl,rfl,rfl,by decide +kernel,rfl,by decide +kernel,by decide +kernel⟩
theorem ZkR(A:bM K mg "_law_deed" qJ ["row"])(T:Txt K mg):aW P w K mg base 1 "_law_deed" ["row"] Cg:=
  aW.of (N:=["row","words"]) (k:=0) A Zgf λf cdv A outer s H E hr=>by
    have hu:=gF hr;unfold La;refine Zi ?_ ?_
    .exact bO 1 Zgf.nd (Tc (Zd 0) (Zc bw Zf))
    .refine Zi ?_ ?_
     .refine bW ?_ ?_ ?_
      .exact bA ((dH hu)) (cg cj (Zd 1) Zt) bw
      .refine Zk ?_;refine bH ?_;refine pU ?_;refine Zc ?_ ?_
       .exact bw
       .refine Zc ?_ ?_
        .exact bw
        .exact Zc (pU (Zc (lq (T:="int") S8 T.Hz Sy (Zc (cg cj (Zd 1) Zt) Zf)) Zf)) Zf
      .exact bR
     .refine Zk ?_;refine bH ?_;refine pU ?_;refine Zc ?_ ?_
      .exact cg cj (Zd 1) Zt
      .exact Zc (pU (Zc (lq (T:="int") S8 T.Hz Sy (Zc (cg cj (Zd 1) Zt) Zf)) Zf)) Zf
theorem uI:dw ["kept","at","cut","word","what","deed"] ["kept"] (Zh qL):=⟨rfl,rfl,rfl,by decide +kernel,rfl,by decide +kernel,by decide +kernel⟩
theorem ZiU(A:bM K mg "_law_folded" qL ["kept"])(T:Txt K mg):aW P w K mg base 1 "_law_folded" ["kept"] GF:=
  aW.of (N:=["kept","at","cut","word","what","deed"]) (k:=0) A uI λf cdv A outer s H E hr=>by
    have hu:=gF hr;unfold Ub;refine Zi ?_ ?_
    .exact bO 1 uI.nd (dg Bm (dh (id:="len") fJ T.eF eV (Zc (Zd 0) Zf)) Zt)
    .refine Zi ?_ ?_
     .exact bO 2 uI.nd (dg Bm (dh (id:="len") fJ T.eF eV (Zc (Zd 0) Zf)) Zt)
     .refine Zi ?_ ?_
      .refine ZlH ?_ ?_ ?_
       .exact rfl
       .refine CW.ct ?_;refine oY ?_ ?_
        .exact mq (uy .str T.pA T.C_ (cg cj (Zd 0) (Zd 1)))
        .refine oY ?_ ?_
         .exact bA Zrq (cg cj (cg cj (Zd 0) (Zd 1)) Zt) (gw (Zc bw (Zc bw Zf)))
         .exact ut (bA v5 (dh (id:="len") fJ T.eF eV (Zc (cg cj (Zd 0) (Zd 1)) Zf)) Zt)
       .refine Zi ?_ ?_
        .exact bW (bA ((T4 hu)) (cg cj (Zd 0) (Zd 1)) bw) (Zk (bO 2 uI.nd (Zd 1))) bR
        .exact Zk (bO 1 uI.nd (dg Bm (Zd 1) Zt))
      .refine Zi ?_ ?_
       .exact Zuu (cg cj (Zd 0) (Zd 1)) (F_ rfl (rT 3 uI.nd (rT 4 uI.nd FZ)))
       .refine Zi ?_ ?_
        .refine bO 5 ?_ ?_
         .exact uI.nd
         .refine pU ?_;refine Zc ?_ ?_
          .exact Zd 3
          .refine Zc ?_ ?_
           .exact Zd 4
           .refine Zc ?_ ?_
            .refine lq (T:="tuple") ?_ ?_ ?_ ?_
             .exact rY
             .exact T.lJ
             .exact rZ
             .refine Zc ?_ ?_
              .refine mz ?_ ?_ ?_ ?_
               .exact mD
               .exact Zd 0
               .exact jq (dg jz (Zd 1) Zt)
               .exact jq (dg Bm (dh (id:="len") fJ T.eF eV (Zc (Zd 0) Zf)) Zt)
              .exact Zf
            .exact Zf
        .refine Zi ?_ ?_
         .refine bW ?_ ?_ ?_
          .exact bA ((T4 hu)) (Zd 3) bw
          .refine Zk ?_;refine bO 5 ?_ ?_
           .exact uI.nd
           .refine pU ?_;refine Zc ?_ ?_
            .exact Zd 3
            .refine Zc ?_ ?_
             .exact Zd 4
             .refine Zc ?_ ?_
              .exact lq (T:="tuple") rY T.lJ rZ (Zc (mz mD (Zd 0) (jq (dg jz (Zd 1) Zt)) (jq (Zd 2))) Zf)
              .refine Zc ?_ ?_
               .refine lq (T:="tuple") ?_ ?_ ?_ ?_
                .exact rY
                .exact T.lJ
                .exact rZ
                .refine Zc ?_ ?_
                 .refine mz ?_ ?_ ?_ ?_
                  .exact mD
                  .exact Zd 0
                  .exact jq (dg jz (Zd 2) Zt)
                  .exact jq (dg Bm (dh (id:="len") fJ T.eF eV (Zc (Zd 0) Zf)) Zt)
                 .exact Zf
               .exact Zf
          .exact bR
         .exact Zk (bH (dg jz (mz mD (Zd 0) rQ (jq (Zd 1))) (gw (Zc (Zd 5) Zf))))
theorem Ck:dw ["rows","kept","row","found","thing"] ["rows"] (Zh qK):=⟨rfl,rfl,rfl,by decide +kernel,rfl,by decide +kernel,by decide +kernel⟩
theorem Zk9(A:bM K mg "_law_due" qK ["rows"])(T:Txt K mg)(Ms:aW P w K mg base 1 "_law_deed" ["row"] Cg)(Mh:aW P w K mg base 1 "_law_folded" ["kept"] GF):aW P w K mg base 2 "_law_due" ["rows"] Lb:=
  aW.of (N:=["rows","kept","row","found","thing"]) (k:=1) A Ck λf cdv A outer s H E hr=>by
    have hu:=gF hr;unfold Uc;refine Zi ?_ ?_
    .exact bO 1 Ck.nd (gw Zf)
    .refine Zi ?_ ?_
     .refine Kf ?_ ?_ ?_ ?_ ?_
      .exact rfl
      .exact rfl
      .exact nC (Zd 0)
      .exact nu 2 Ck.nd
      .refine Zk ?_;refine bW ?_ ?_ ?_
       .exact bA Ky (Zd 2) (gw (Zc bw (Zc bw Zf)))
       .exact Zk (mC (o4 (Zd 1) (Zc (Zd 2) Zf)))
       .refine Zk ?_;refine bW ?_ ?_ ?_
        .exact bA ((Bs hu)) (Zd 2) bw
        .exact Zk (mC (o4 (Zd 1) (Zc (fH (k:=1) (ps:=["row"]) Ms (hr.mono (by decide)) (Zc (Zd 2) Zf)) Zf)))
        .exact bR
     .refine Zi ?_ ?_
      .exact bO 3 Ck.nd (gw Zf)
      .refine Zi ?_ ?_
       .refine Kf ?_ ?_ ?_ ?_ ?_
        .exact rfl
        .exact rfl
        .exact nC (Zd 1)
        .exact nu 4 Ck.nd
        .refine Zi ?_ ?_
         .exact mC (o4 (Zd 3) (Zc (Zd 4) Zf))
         .exact Zk (bW (bA ((T4 hu)) (Zd 4) bw) (Zk (bO 3 Ck.nd (fH (k:=1) (ps:=["kept"]) Mh (hr.mono (by decide)) (Zc (Zd 3) Zf)))) bR)
       .exact Zk (bH (lq (T:="tuple") rY T.lJ rZ (Zc (Zd 3) Zf)))
theorem Cm:dw ["text","found","caught","e"] ["text"] (Zh qM):=⟨rfl,rfl,rfl,by decide +kernel,rfl,by decide +kernel,by decide +kernel⟩
theorem Zj5(A:bM K mg "_law_told" qM ["text"])(T:Txt K mg){eZ bY iz:Ys}(XO:GK K mg eZ bY iz)(Hx:mF P w K mg base 68 "read" ["text"] yL):aW P w K mg base 69 "_law_told" ["text"] wu:=
  aW.of (N:=["text","found","caught","e"]) (k:=68) A Cm λf cdv A outer s H E hr=>by
    have hu:=gF hr;unfold Ld;refine Zi ?_ ?_
    .exact bO 1 Cm.nd nq
    .refine Zi ?_ ?_
     .exact bO 2 Cm.nd nq
     .refine Zi ?_ ?_
      .refine ZuE (cs:=[[66,97,100,82,111,119]]) (CE:=bY) 3 ?_ ?_ ?_ (λKD E'=>?_) (λA' E'=>?_)
       .exact Cm.nd
       .exact XO.CQ
       .exact XO.Ab2
       .exact sH (Znn 1 Cm.nd (Tq (k:=68) (ps:=["text"]) Hx (hr.mono (by decide)) (Zc (Zd 0) Zf)))
       .exact Zk (bO 2 Cm.nd (Zd 3))
      .exact Zi (bW (bA Ztb (Zd 2) nq) (Zk (bH (ZuT (C:=bY) (c:=[66,97,100,82,111,119]) (m:=[114,111,119]) XO.Ab1 (Zd 2)))) bR) (Zk (bH (Zd 1)))
theorem nO:dw ["script","rows","stack","number","cell","word","found"] ["script"] (Zh mH):=⟨rfl,rfl,rfl,by decide +kernel,rfl,by decide +kernel,by decide +kernel⟩
theorem Zuf{f:Ys}{fd:jl}(F:oK K "law" "law" mH f fd)(T:Txt K mg)(Hs:aW P w K mg base 32 "_law_same" ["found","due"] K9)(zc:aW P w K mg base 1 "_law_may" ["stack","word"] uH)(Hl:aW P w K mg base 1 "_law_stands" ["stack","word"] yM)(Ml:aW P w K mg base 2 "_law_drawn" ["cell","stack"] GD)(Mv:aW P w K mg base 1 "_law_row" ["word","cell"] Ce)(Mw:aW P w K mg base 2 "_law_due" ["rows"] Lb)(Mt:aW P w K mg base 69 "_law_told" ["text"] wu):fM P w K mg base jK 70 f fd ["script"] (rR K 1 ZnP):=
  RW (N:=["script","rows","stack","number","cell","word","found"]) (k:=69) F nO λcdv A outer s H E hr=>by
    have hu:=gF hr;unfold Ud;refine Zi ?_ ?_
    .exact bO 1 nO.nd (gw Zf)
    .refine Zi ?_ ?_
     .exact bO 2 nO.nd (gw Zf)
     .refine Zi ?_ ?_
      .exact bO 3 nO.nd Zt
      .refine Zi ?_ ?_
       .refine Kf ?_ ?_ ?_ ?_ ?_
        .exact rfl
        .exact rfl
        .exact nC (mz mD (Zd 0) rQ (jq Zt))
        .exact nu 4 nO.nd
        .refine Zi ?_ ?_
         .exact bO 5 nO.nd (fH (k:=2) (ps:=["cell","stack"]) Ml (hr.mono (by decide)) (Zc (Zd 4) (Zc (Zd 2) Zf)))
         .refine Zi ?_ ?_
          .refine bW ?_ ?_ ?_
           .refine CW.ct ?_;exact yt (bA ((dH hu)) (Zd 3) Zt) (Bg (Bh (mq (fH (k:=1) (ps:=["stack","word"]) zc (hr.mono (by decide)) (Zc (Zd 2) (Zc (Zd 5) Zf))))))
           .exact Zk (bO 3 nO.nd (dg jz (dh (id:="len") fJ T.eF eV (Zc (Zd 1) Zf)) Zt))
           .exact bR
          .refine Zi ?_ ?_
           .refine bW ?_ ?_ ?_
            .exact bA ((dH hu)) (Zd 3) Zt
            .exact Zk (bO 2 nO.nd (fH (k:=1) (ps:=["stack","word"]) Hl (hr.mono (by decide)) (Zc (Zd 2) (Zc (Zd 5) Zf))))
            .exact bR
           .refine Zi ?_ ?_
            .exact mC (o4 (Zd 1) (Zc (fH (k:=1) (ps:=["word","cell"]) Mv (hr.mono (by decide)) (Zc (Zd 5) (Zc (Zd 4) Zf))) Zf))
            .refine Zk ?_;refine bW ?_ ?_ ?_
             .refine CW.ct ?_;refine yt ?_ ?_
              .exact bA ((dH hu)) (dg yw (dg Gf (Zd 4) Zt) Zt) Zt
              .exact Bg (bA Bo (dh (id:="len") fJ T.eF eV (Zc (Zd 1) Zf)) Zt)
             .exact Zk (mC (o4 (Zd 1) (Zc bw Zf)))
             .exact bR
       .refine Zi ?_ ?_
        .refine ZlH ?_ ?_ ?_
         .exact rfl
         .refine CW.ct ?_;refine yt ?_ ?_
          .exact bA ((dH hu)) (Zd 3) Zt
          .refine yt ?_ ?_
           .exact bA ((KY hu)) (Zd 2) (gw Zf)
           .exact Bg (bA ((dH hu)) (dg yw (dh (id:="len") fJ T.eF eV (Zc (Zd 0) Zf)) Zt) Zt)
         .refine Zi ?_ ?_
          .exact bO 5 nO.nd bw
          .refine Zi ?_ ?_
           .exact bW (bA ((dH hu)) (cg cj (Zd 2) (oX oZ Zt)) bw) (Zk (bO 5 nO.nd bw)) bR
           .refine Zi ?_ ?_
            .exact bO 2 nO.nd (fH (k:=1) (ps:=["stack","word"]) Hl (hr.mono (by decide)) (Zc (Zd 2) (Zc (Zd 5) Zf)))
            .exact Zk (mC (o4 (Zd 1) (Zc (Zd 5) Zf)))
        .refine Zi ?_ ?_
         .exact bO 6 nO.nd (fH (k:=69) (ps:=["text"]) Mt (hr.mono (by decide)) (Zc (Zmy bw (Zc (Zd 1) Zf)) Zf))
         .refine Zi ?_ ?_
          .refine bW ?_ ?_ ?_
           .exact CW.ct (yt (bA ((dH hu)) (Zd 3) Zt) (Bg (bA ((KY hu)) (Zd 2) (gw Zf))))
           .refine Zk ?_;refine bO 3 ?_ ?_
            .exact nO.nd
            .refine dg ?_ ?_ ?_
             .exact jz
             .exact dh (id:="max") ((Zu5 rfl)) T.M_ ZuA (Zc Zt (Zc (dh (id:="len") fJ T.eF eV (Zc (Zd 1) Zf)) Zf))
             .exact Zt
           .exact bR
          .refine Zi ?_ ?_
           .exact bW (bA v5 (Zd 3) Zt) (Zk (bH (fH (k:=32) (ps:=["found","due"]) Hs (hr.mono (by decide)) (Zc (Zd 6) (Zc (Zd 3) Zf))))) bR
           .refine Zk ?_;refine bH ?_;refine fH (k:=32) (ps:=["found","due"]) ?_ ?_ ?_
            .exact Hs
            .exact hr.mono (by decide)
            .exact Zc (Zd 6) (Zc (pU (Zc (pU Zf) (Zc (fH (k:=2) (ps:=["rows"]) Mw (hr.mono (by decide)) (Zc (Zd 1) Zf)) Zf))) Zf)
end
end _Law
set_option maxHeartbeats 200000
namespace _Law
open _L3
theorem ZuX(c:Nat):∀(x y a b:List Nat),c∉x->c∉y->x++c::a=y++c::b->x=y/\a=b:=by
 intro x
 induction x with
 |nil=>
  intro y a b _ hy h;cases y with
  |nil=>exact⟨rfl,(iY h).2⟩|cons q y=>exact absurd (iY h).1 λe=>hy (e▸Yg ..)
 | cons p x ih=>
  intro y a b hx hy h;cases y with
  |nil=>exact absurd (iY h).1 λe=>hx (e▸Yg ..)|cons q y=>obtain⟨e1,e2⟩:=ih y a b (λz=>hx (Ye _ z)) (λz=>hy (Ye _ z)) (iY h).2;exact⟨by rw[(iY h).1,e1],e2⟩
theorem lz(s x y:List Nat)(r:List (List Nat)):glue s (x::y::r)=x++(s++glue s (y::r)):=by show x++s++glue s (y::r)=_;rw[Yy]
theorem Zrr(c:Nat):∀(ts us:List (List Nat)),ts≠[]->us≠[]->(∀t∈ts,c∉t)->(∀t∈us,c∉t)->glue [c] ts=glue [c] us->ts=us:=by
 intro ts
 induction ts with
 |nil=>intro us h;exact absurd rfl h|cons t ts ih=>
  intro us _ hu ft fu h;cases us with
  |nil=>exact absurd rfl hu|cons u us=>
   have ht:=ft t (Yg ..);have hu':=fu u (Yg ..);cases ts with
   | nil=>
    cases us with
    |nil=>rw[show t=u from h]|cons v us=>rw[lz]at h;refine absurd (show c∈t from ?_) ht;rw[show t=_ from h];exact Y4 _ (Yg ..)
   | cons w ts=>
    cases us with
    |nil=>rw[lz]at h;refine absurd (show c∈u from ?_) hu';rw[show u=_ from h.symm];exact Y4 _ (Yg ..)|cons v us=>rw[lz,lz]at h;obtain⟨e1,e2⟩:=ZuX c t u _ _ ht hu' h;rw[e1,ih (v::us) (λz=>nomatch z) (λz=>nomatch z) (λq hq=>ft q (Ye _ hq)) (λq hq=>fu q (Ye _ hq)) e2]
theorem Zid(x:List Nat)(c:Nat):glue [c] (lZ x [c])=x:=by
 have h:=PySem.StrLaws.join_split (⟨x.toArray⟩:PySem.Str) (⟨([c]:List Nat).toArray⟩);have e:(Ymc (⟨x.toArray⟩:PySem.Str) ⟨([c]:List Nat).toArray⟩)=(lZ x [c]).map λt=>(⟨t.toArray⟩:PySem.Str):=by unfold lZ;rw[zV];exact(List.map_id _).symm.trans (Xw λt _=>rfl)
 rw[e,S6]at h;have q:=congrArg (λs:PySem.Str=>s.cps.toList) h;simpa using q
theorem Ul(c:Nat)(ts:List (List Nat))(h:ts≠[])(hf:∀t∈ts,c∉t):lZ (glue [c] ts) [c]=ts:=by
 have hs:∀t∈lZ (glue [c] ts) [c],c∉t:=by intro t ht;obtain⟨p,hp,rfl⟩:=lR.mp ht;exact PySem.StrLaws.split_free _ c p hp
 refine Zrr c _ _ (λz=>?_) h hs hf (Zid _ c);have q:=Zid (glue [c] ts) c;unfold lZ at z;have z1:=zO.mp z;have z2:=PyProof.Rows.split_pos (⟨(glue [c] ts).toArray⟩:PySem.Str) ⟨([c]:List Nat).toArray⟩;rw[z1]at z2;exact absurd z2 (by decide)
noncomputable def cu(n:Nat):List Nat:=(IW 10 n).map Qz
theorem ZlF:∀d:Nat,d<10->(Nat.digitChar d).toNat=48+d:=by decide
variable{n:Nat}
theorem wz(h:n<10):cu n=[48+n]:=by unfold cu;rw[XS h,Yv,vD,ZlF n h]
theorem GQ(h:10<=n):cu n=cu (n / 10)++[48+n % 10]:=by have hm:n % 10<10:=Nat.mod_lt n (by decide);have t:IW 10 (n / 10)++IW 10 (n % 10)=IW 10 (10*(n / 10)+n % 10):=Nat.toDigits_append_toDigits (by decide) (by omega) hm;rw[Nat.div_add_mod]at t;unfold cu;rw[←t,pI,XS hm,Yv,vD,ZlF _ hm]
theorem wA(n:Nat):∀c∈cu n,48<=c/\c<=57:=by
 induction n using Pk with
 | _ n ih=>
  by_cases h:n<10
  .rw[wz h];intro c hc;rw[Yr.mp hc];exact⟨lU _ _,lA 1 0x392b0302bc0a1b011 T1 h⟩
  .rw[GQ (iW h)];intro c hc;rcases gP.mp hc with hc|hc
   .exact ih (n / 10) (IK λz=>lB 3 0x6010ad01a1b0511002 T1 z h (Pq _ _)) c hc
   .rw[Yr.mp hc];exact⟨lU _ _,lA 1 0x392b0302bc0a1b011 T1 (Nat.mod_lt _ (by decide))⟩
theorem GR(n:Nat):cu n≠[]:=by
 by_cases h:n<10
 .rw[wz h];exactλz=>nomatch z
 .rw[GQ (iW h)];exactλz=>absurd (List.append_eq_nil_iff.mp z).2 (λz=>nomatch z)
theorem GX(k:Nat):∀n:Nat,n<10^(k+1)->(cu n).length<=k+1:=by
 induction k with
 |zero=>intro n h;rw[wz (by simpa using h)];exact Yo _|succ k ih=>
  intro n h;by_cases q:n<10
  .rw[wz q];exact Pn 1 _
  .rw[GQ (iW q),Yl,lQ];have:=ih (n / 10) (by rw[Nat.pow_succ]at h;omega);exact lB 1 0xaa1cca0c0a1c001 T1 this
theorem Zpd(n:Nat)(h:0<n):∀r,cu n≠48::r:=by
 induction n using Pk with
 | _ n ih=>
  intro r z;by_cases q:n<10
  .rw[wz q]at z;have:=(iY z).1;exact lA 2 0x60e11302b0302bc21 T1 this h
  .rw[GQ (iW q)]at z;cases e:cu (n / 10)with
   |nil=>exact GR _ e|cons c l=>rw[e]at z;have:=(iY z).1;subst this;exact ih (n / 10) (IK λz=>lB 3 0x6010ad01a1b0511002 T1 z q (Pq _ _)) (by omega) l e
theorem Zk4(n:Nat):Ea (cu n)=n:=by
 induction n using Pk with
 | _ n ih=>
  by_cases q:n<10
  .rw[wz q];show 0*10+(48+n-48)=n;exact gn (lB 1 0x10a1b00dc01302bc302b0c21 T1 (j4 (lU _ _))) (lB 1 0x1a1b00dc00302b1c0302bc01 T1 (jH _ _))
  .rw[GQ (iW q)];have e:Ea (cu (n / 10)++[48+n % 10])=Ea (cu (n / 10))*10+(48+n % 10-48):=by
    unfold Ea;rw[List.foldl_append];rfl
   rw[e,ih (n / 10) (IK λz=>lB 3 0x6010ad01a1b0511002 T1 z q (Pq _ _))];omega
theorem GZ(n:Nat):cY (n:Int)=cu n:=by unfold cY cu;rw[YK];show(Nat.repr n).toList.map Qz=_;rw[YB]
theorem Lf(n:Nat):cY (Int.negSucc n)=45::cu (n+1):=by unfold cY cu;rw[YK];show("-" ++Nat.repr (n+1)).toList.map Qz=_;rw[String.toList_append,pI,YB];rfl
theorem Um(i:Int)(h:i.natAbs<10^60):HW ⟨(cY i).toArray⟩=Ya i/\(cY i).length<=61/\∀c∈cY i,45<=c:=by
 cases i with
 |ofNat n=>have hl:=GX 59 n h;have e:cY (Int.ofNat n)=cu n:=GZ n;rw[e];refine⟨?_,Pb hl,λc hc=>Yp (by decide) (wA n c hc).1⟩;have q:=PySem.intText_digits (x:=⟨(cu n).toArray⟩) (wA n) (GR n) (Yp (show(cu n).toArray.size<=60 by simpa using hl) (by decide));rw[q];show Ya ((Ea (cu n):Nat):Int)=_;rw[Zk4];rfl|negSucc n=>
  have hl:=GX 59 (n+1) h;rw[Lf];refine⟨?_,zX hl,λc hc=>?_⟩
  .have q:=PySem.intText_neg (x:=⟨(45::cu (n+1)).toArray⟩) (cs:=cu (n+1)) rfl (wA _) (GR _) (Yp (show(45::cu (n+1)).toArray.size<=61 by simpa using hl) (by decide));rw[q,Zk4];rfl
  .rcases Ym.mp hc with e|hc
   .exact tW e.symm
   .exact Yp (by decide) (wA _ c hc).1
variable{M M':Store}{d:D}
theorem Zqg(h:M'.length=M.length):dG M d M'= .ok d M':=by unfold dG;rw[zK (tW h)];split <;>rfl
theorem Rb(n d:Nat):aA n d Yj=d:=rfl
theorem Ew(n d k:Nat):aA n d (Ya (k:Int))=ir k n:=by have h:¬((k:Int)<0):=(λz=>iN [_] [] 1 7211153 T1 z);simp only[aA,if_neg h,z6]
variable{α:Type}
theorem Uo(w:List α)(k:Nat):cutD w (Ya (k:Int)) Yj=w.drop k:=by
 unfold cutD;rw[Ew,Rb];by_cases h:k<=w.length
 .rw[xK h,zK (by simp)]
 .rw[Pg (by exact lB 1 1052737 T1 h),Ip (Yo _),Ip (by exact lB 1 1052737 T1 h)];simp
theorem Zuw(w:List α)(k:Nat):cutD w Yj (Ya (k:Int))=w.take k:=by
 unfold cutD;rw[Ew,Rb];by_cases h:k<=w.length
 .rw[xK h];simp
 .rw[Pg (by exact lB 1 1052737 T1 h),Nat.sub_zero,DN,zK (Yo _),zK (by exact lB 1 1052737 T1 h)]
variable{i:Int}
theorem G4{j:Int}(h:0<j/\j<1073741824):jM (.int i) (.int j) M= .ok (.int (i / j)) M:=by simp only[ZjT,if_pos h]
variable{g:cW}{env:Zx}{ds:List D}
theorem jh(h:g env M= .ok ds M')(hl:decide (ds.length<=100)=true):b_ g env M= .ok (.ref M'.length) (M'++[.lst ds]):=by have z:ds.length<=SZ:=Yp (of_decide_eq_true hl) (by decide);simp only[b_,h,R3.bind,if_pos z,alloc]
variable{xs:List D}
theorem yO{o t:E3}(ho:o env M= .ok (.ref n) M)(hM:M[n]?=Ya (.lst xs))(ht:t env M= .ok d M')(hM':M'[n]?=Ya (.lst xs))(hl:xs.length<SZ):
  bV (bB dF d9 o (Zb t (Zg))) env M= .nx env (M'.set n (.lst (xs++[d]))):=by
 have e:bB dF d9 o (Zb t (Zg)) env M= .ok .non (M'.set n (.lst (xs++[d]))):=by simp only[bB,ho,R3.bind,J2,hM,Zb,ht,Zg,RB,hM',if_pos hl,if_true]
 rw[bV,e]
noncomputable def nP(x:List Nat):Bool:=decide (x=[97,100,100]\/x=[115,117,98]\/x=[109,111,114,101]\/x=[99,101,108,108])
theorem Zla(s:Nat)(b:Nat):∀ts:List (List Nat),(∀t∈ts,t.length<=b)->ni [s] ts<=ts.length*(b+1)/\(glue [s] ts).length<=ts.length*(b+1):=by
 intro ts
 induction ts with
 |nil=>intro _;exact⟨by simp[ni],by simp[glue]⟩|cons t ts ih=>
  intro h;have ht:=h t (Yg ..);obtain⟨i1,i2⟩:=ih λq hq=>h q (Ye _ hq);have e1:ni [s] (t::ts)=t.length+1+ni [s] ts:=by simp[ni]
  have e3:(ts.length+1)*(b+1)=ts.length*(b+1)+(b+1):=Nat.succ_mul ..;rw[e1,Yk,e3];refine⟨lD 2 0xa3c1c0a2cc032011001 T1 i1 ht,?_⟩;cases ts with
  |nil=>show t.length<=_;exact lC 1 0xa1c2c001001 T1 ht|cons u ts=>rw[lz,Yl,Yl];show t.length+(1+_)<=_;exact lD 2 0xa3c1c0ac2c032011001 T1 i2 ht
theorem strs_map:∀ts:List (List Nat),jd (ts.map D.str)=Ya ts
 |[]=>rfl|t::ts=>by show(jd (ts.map D.str)).map _=_;rw[strs_map ts];rfl
variable{ts:List (List Nat)}{s:Nat}
theorem Zs0(h:M[n]?=Ya (.lst (ts.map D.str)))(hz:ni [s] ts<=SZ):Bb (.str [s]) [.ref n] M= .ok (.str (glue [s] ts)) M:=by simp only[Zle,h,strs_map,if_pos hz]
theorem G5{m:D->List D->Store->R3 D}{o g:E3}{M M1 M2:Store}{x:List Nat}{r:D}(h1:o env M= .ok (.str x) M)(h2:g env M= .ok d M1)(h3:m (.str x) [d] M1= .ok r M2):bB iw m o (Zb g Zg) env M= .ok r M2:=by simp only[bB,h1,R3.bind,ZvE,if_true,Zb,h2,Zg,h3]
theorem ZrR(h:i.natAbs<10^60):(cY i).length<=61:=(Um i h).2.1
noncomputable abbrev uJ:List Nat:=[48,49,50,51,52,53,54,55,56,57]
theorem in_str(c:Nat)(y:List Nat)(M:Store):kj (.str [c]) (.str y) M= .ok (.bl (decide (c∈y))) M:=rfl
theorem all_map{p:α->Bool}{l:List α}(h:M[n]?=Ya (.lst (l.map λc=>D.bl (p c)))):rK [.ref n] M= .ok (.bl (l.all p)) M:=by
 have a:∀l:List α,(l.map λc=>D.bl (p c)).all Av=true/\(l.map λc=>D.bl (p c)).all yd=l.all p:=by
  intro l
  induction l with
  |nil=>exact⟨rfl,rfl⟩|cons x l ih=>exact⟨by simp only[Yv,iU,Av,ih.1,Bool.and_self],by rw[Yv,iU,iU,ih.2];cases p x<;>rfl⟩
 simp only[Aw,h,allB,(a l).1,(a l).2,if_true]
theorem Zil{w fs:List Nat}(h1:1<=fs.length)(h2:fs.length<=60)(h3:∀r,fs≠48::r):
  (Zw (aK (dz (e2 jN (aG bx (Zb (Za 1) (Zg))) (eC (.int 1))) (e2 jo (aG bx (Zb (Za 1) (Zg))) (qU))) (aX (eC (.bl false))) (aY)) (Zw (aK (bB iw rN (Za 1) (Zb (eC (.str [48])) (Zg))) (aX (e2 aN (Za 0) (eC (.str [48])))) (aY)) (aX (aG rK (Zb (jx (eQ (Za 1)) 1 (dN 2) [] (e2 kj (Za 2) (uV))) (Zg)))))) [Ya (.str w),Ya (.str fs)] M= .rt (.bl (fs.all λc=>decide (c∈uJ))) (M++[.lst (fs.map λc=>D.bl (decide (c∈uJ)))]):=by
 have hz:fs.length<=SZ:=Yp h2 (by decide);have ln:(aG bx (Zb (Za 1) (Zg))) [Ya (.str w),Ya (.str fs)] M= .ok (.int fs.length) M:=cQ (a:=.str fs) rfl (by simp only[Fg,Fi,Fj,uf,if_pos hz]);have c1:(dz (e2 jN (aG bx (Zb (Za 1) (Zg))) (eC (.int 1))) (e2 jo (aG bx (Zb (Za 1) (Zg))) (qU))) [Ya (.str w),Ya (.str fs)] M= .ok (.bl false) M:=by rw[m_ (M1:=M) (Zj ln rfl (by simp only[Ak];rw[decide_eq_false (by exactλz=>iN [_] [] 2 415002921105 T1 z h1)]))];exact Zj ln (g:=qU) (b:=.int 60) rfl (by simp only[pN];rw[decide_eq_false (by exactλz=>iN [_] [] 2 0x63c2b001083c2b91 T1 z h2)])
 have c2:(bB iw rN (Za 1) (Zb (eC (.str [48])) (Zg))) [Ya (.str w),Ya (.str fs)] M= .ok (.bl false) M:=by
  refine G5 (d:=.str [48]) rfl rfl ?_;cases fs with
  |nil=>exact absurd h1 (by decide)|cons c r=>
   have q:¬48=c:=λe=>h3 r (by rw[e]);have e:([48]:List Nat).isPrefixOf (c::r)=false:=by show((48==c)&&O7 [] r)=false;rw[beq_eq_false_iff_ne.mpr q];rfl
   simp only[Fl];rw[if_pos ⟨hz,by decide⟩,e]
 rw[Ze (Zq c1),Ze (Zq c2)];have hi:(eQ (Za 1)) [Ya (.str w),Ya (.str fs)] M= .ok ⟨fs.map (λc=>D.str [c]),Yj⟩ M:=by simp only[eQ,Za,Im,Io,R3.bind,if_pos hz]
 have lc:=A_ (h:=λc=>D.bl (decide (c∈uJ))) (own:=1) (i:=2) (elt:=(e2 kj (Za 2) (uV))) hi (λn z=>nomatch z)
  (λc hc M'=>Zj (a:=.str [c]) (b:=.str uJ) rfl rfl (in_str c uJ M')) (Yp h2 (by decide))
 exact cF (cQ lc (all_map (Zy _ _ _)))
theorem ZvJ{c:Nat}(h:48<=c/\c<=57):c∈uJ:=(Xz:c∈List.range' 48 10↔_).mpr ⟨h.1,X7 h.2⟩
theorem ZlM(h:i.natAbs<10^60)(M:Store):qb [.str (cY i)] M= .ok (.bl true) M:=by
 have go:∀(n:Nat) (w:List Nat),0<n->n<10^60->(jL (bB iw rN (Za 0) (Zb (eC (.str [45])) (Zg))) (dD (Za 0) (bQ (eC (.int 1))) (gJ)) (Za 0)) [Ya (.str w),Yj] M= .ok (.str (cu n)) M->qb [.str w] M= .ok (.bl true) M:=λn w h0 h1 hf=>by
  refine Rt.pure (G:=[.lst ((cu n).map λc=>D.bl (decide (c∈uJ)))]) (env:=[Ya (.str w),Yj]) ?_ rfl;unfold Gx;rw[Ze (Zr hf)];refine(Zil ?_ (GX 59 n h1) (Zpd n h0)).trans (by rw[gO.mpr λc hc=>decide_eq_true (ZvJ (wA n c hc))]);cases e:cu n with
  |nil=>exact absurd e (GR n)|cons _ _=>exact Pn 1 _
 cases i with
 | ofNat n=>
  have e:cY (Int.ofNat n)=cu n:=GZ n;have hp:(jL (bB iw rN (Za 0) (Zb (eC (.str [45])) (Zg))) (dD (Za 0) (bQ (eC (.int 1))) (gJ)) (Za 0)) [Ya (.str (cu n)),Yj] M= .ok (.str (cu n)) M:=by
   rw[Fy (M1:=M)]
   .rfl
   .refine G5 (d:=.str [45]) rfl rfl ?_;have hl:=GX 59 n h;have e:([45]:List Nat).isPrefixOf (cu n)=false:=by
     cases q:cu n with
     |nil=>rfl|cons c r=>have qc:=wA n c (by rw[q];exact Yg ..);show((45==c)&&O7 [] r)=false;rw[beq_eq_false_iff_ne.mpr (by exactλz=>lA 2 0x60302b0102d2b31 T1 z qc.1)];rfl
    simp only[Fl];rw[if_pos ⟨Yp hl (by decide),by decide⟩,e]
  rw[e];by_cases z:n=0
  .subst z;refine Rt.pure (G:=[]) (env:=[Ya (.str (cu 0)),Yj]) ?_ rfl;rw[iD];unfold Gx;rw[Ze (Zr hp),wz (by decide)];simp[Zw,aK,aX,aY,qU]
  .exact go n _ (Nat.pos_of_ne_zero z) h hp
 | negSucc n=>
  rw[Lf];have hl:=GX 59 (n+1) h;refine go (n+1) _ (Nat.succ_pos n) h ?_;rw[Fx (M1:=M)]
  .have e:cutD (45::cu (n+1)) (Ya 1) Yj=cu (n+1):=Uo (45::cu (n+1)) 1;have hz:(45::cu (n+1)).length<=SZ:=Yp (zX hl) (by decide);simp only[dD,Za,bQ,gJ,eC,R3.bind,Io,Fd,Fe,Ff,Aq,if_pos hz,e]
  .refine G5 (d:=.str [45]) rfl rfl ?_;have hz:(45::cu (n+1)).length<=SZ:=Yp (zX hl) (by decide);simp only[Fl];rw[if_pos ⟨hz,by decide⟩];rfl
theorem Zli{x:List Nat}(h1:1<=x.length)(h2:x.length<=60)(h3:∀c∈x,97<=c)(M:Store):qb [.str x] M= .ok (.bl false) M:=by
 have hz:x.length<=SZ:=Yp h2 (by decide);obtain⟨c,r,rfl⟩:∃c r,x=c::r:=by
  cases x with
  |nil=>exact absurd h1 (by decide)|cons c r=>exact⟨c,r,rfl⟩
 have hc:97<=c:=h3 c Yg;have hp:(jL (bB iw rN (Za 0) (Zb (eC (.str [45])) (Zg))) (dD (Za 0) (bQ (eC (.int 1))) (gJ)) (Za 0)) [Ya (.str (c::r)),Yj] M= .ok (.str (c::r)) M:=by
  rw[Fy (M1:=M)]
  .rfl
  .refine G5 (d:=.str [45]) rfl rfl ?_;have e:([45]:List Nat).isPrefixOf (c::r)=false:=by
    show((45==c)&&O7 [] r)=false;rw[beq_eq_false_iff_ne.mpr (by exactλz=>lA 2 0x60612b0102d2b31 T1 z hc)];rfl
   simp only[Fl];rw[if_pos ⟨hz,by decide⟩,e]
 refine Rt.pure (G:=[.lst ((c::r).map λc=>D.bl (decide (c∈uJ)))]) (env:=[Ya (.str (c::r)),Yj]) ?_ rfl;unfold Gx;rw[Ze (Zr hp)];refine(Zil h1 h2 (λq e=>by have:=(iY e).1;exact lA 2 0x60612b01302b021 T1 this hc)).trans ?_;have hn:decide (c∈uJ)=false:=decide_eq_false λz=>by simp only[Ym,ig,or_false]at z;omega
 rw[iU,hn,Pz]
inductive Sm where
 |num (i:Int)|ji (x:List Nat)|lF (a:Sm)|two (o:Nat) (a b:Sm)
noncomputable abbrev wD:List Nat:=[99,101,108,108]
noncomputable def Lg:Nat->List Nat
 |0=>[97,100,100]|1=>[115,117,98]|_=>[109,111,114,101]
noncomputable def Sm.flat:Sm->List D
 | .num i=>[.int i]|.ji x=>[.str x]|.lF a=>.str wD::a.flat|.two o a b=>.str (Lg o)::(a.flat++b.flat)
noncomputable def Sm.good:Sm->Prop
 | .num _=>True|.ji x=>nP x=false|.lF a=>a.good|.two _ a b=>a.good/\b.good
noncomputable def Sm.all(Q:List Nat->Prop):Sm->Prop
 | .num _=>True|.ji x=>Q x|.lF a=>a.all Q|.two _ a b=>a.all Q/\b.all Q
noncomputable def Sm.parts:Sm->List Sm
 | .num _=>[]|.ji _=>[]|.lF a=>[a]|.two _ a b=>[a,b]
noncomputable def Sm.head:Sm->D
 | .num i=>.int i|.ji x=>.str x|.lF _=>.str wD|.two o _ _=>.str (Lg o)
theorem Sm.Hv(t:Sm):t.flat=t.head::(t.parts.map Sm.flat).flatten:=by cases t<;>simp[Sm.flat,Sm.head,Sm.parts]
noncomputable def ar:D->Nat
 | .str x=>if x=wD then 1 else if nP x=true then 2 else 0|_=>0
inductive qN:D->Prop
 |int (i:Int):qN (.int i)
 |str (x:List Nat):qN (.str x)
theorem Cp:∀(t:Sm),∀d∈t.flat,qN d
 | .num i,d,h=>by rw[Yr.mp h];exact .int i|.ji x,d,h=>by rw[Yr.mp h];exact .str x|.lF a,d,h=>by
  rcases Ym.mp h with h|h
  .rw[h];exact .str _
  .exact Cp a d h
 | .two o a b,d,h=>by
  rcases Ym.mp h with h|h
  .rw[h];exact .str _
  .rcases gP.mp h with h|h
   .exact Cp a d h
   .exact Cp b d h
theorem Zqi(x:List Nat):dX x nG=if x=[97,100,100]then Ya 2 else if x=[115,117,98]then Ya 2 else if x=[109,111,114,101]then Ya 2 else if x=wD then Ya 1 else Yj:=rfl
theorem Zu0{w:D}(h:qN w)(M:Store):uo nG w (.int 0) M= .ok (.int (ar w:Nat)) M:=by
 cases h with
 |int i=>rfl|str x=>
  show(match dX x nG with|some i=>R3.ok (D.int i) M|none=>R3.ok (D.int 0) M)=_;rw[Zqi];by_cases h1:x=[97,100,100]
  .subst h1;rfl
  by_cases h2:x=[115,117,98]
  .subst h2;rfl
  by_cases h3:x=[109,111,114,101]
  .subst h3;rfl
  by_cases h4:x=wD
  .subst h4;rfl
  have:nP x=false:=decide_eq_false λz=>z.elim h1 λz=>z.elim h2 λz=>z.elim h3 h4;simp only[if_neg h1,if_neg h2,if_neg h3,if_neg h4,ar,this];rfl
noncomputable def stp(s:List (List D)×Nat)(w:D):List (List D)×Nat:=
 let s:=if s.2=0 then(s.1++[[]],1)else s
 (s.1.dropLast++[s.1.getLastD []++[w]],s.2-1+ar w)
theorem Cq(ds:List (List D))(cur:List D)(l:Nat)(w:D):stp (ds++[cur],l+1) w=(ds++[cur++[w]],l+ar w):=by simp[stp]
theorem Zon(ds:List (List D))(w:D):stp (ds,0) w=stp (ds++[[]],0+1) w:=by simp[stp]
theorem Lh:∀(t:Sm),t.good->∀(ds:List (List D)) (cur:List D) (l:Nat) (r:List D),(t.flat++r).foldl stp (ds++[cur],l+1)=r.foldl stp (ds++[cur++t.flat],l)
 | .num i,_,ds,cur,l,r=>by simp only[Sm.flat,xF,mQ,vC,Cq];rfl|.ji x,h,ds,cur,l,r=>by
  have e:ar (.str x)=0:=by
   have h:nP x=false:=h;have h':x≠wD:=λz=>by subst z;exact absurd h (by decide)
   simp only[ar,if_neg h',h];rfl
  simp only[Sm.flat,xF,mQ,vC,Cq,e,Pu]
 | .lF a,h,ds,cur,l,r=>by have e:ar (.str wD)=1:=rfl;simp only[Sm.flat,xF,vC,Cq,e,Lh a h,Yy,mQ]|.two o a b,h,ds,cur,l,r=>by
  have e:ar (.str (Lg o))=2:=by
   match o with
   |0=>rfl|1=>rfl|_+2=>rfl
  have e2:l+2=l+1+1:=rfl;simp only[Sm.flat,xF,vC,Cq,e,Yy,e2,Lh a h.1,Lh b h.2,mQ]
theorem Uq(t:Sm):∃w r,t.flat=w::r:=⟨_,_,t.Hv⟩
theorem ZrY(t:Sm)(h:t.good)(ds:List (List D))(r:List D):(t.flat++r).foldl stp (ds,0)=r.foldl stp (ds++[t.flat],0):=by obtain⟨w,q,e⟩:=Uq t;have h1:=Lh t h ds [] 0 r;rw[mQ]at h1;rw[←h1,e,xF,vC,vC,Zon]
theorem Zoh:∀(ts:List Sm),(∀t∈ts,t.good)->∀ds,(ts.map Sm.flat).flatten.foldl stp (ds,0)=(ds++ts.map Sm.flat,0)
 |[],_,ds=>by simp|t::ts,h,ds=>by rw[Yv,zT,ZrY t (h t Yg),Zoh ts λt ht=>h t (Ye _ ht)];simp
noncomputable def lH(n j:Nat):List D:=(iV j).map λk=>D.ref (n+1+k)
noncomputable def dJ(M:Store)(done:List (List D)):Store:=M++ .lst (lH M.length done.length)::done.map MO.lst
theorem Znx(M:Store)(done:List (List D)):(dJ M done).length=M.length+1+done.length:=by simp only[dJ,Yl,Yk,Yw];exact gn (lB 0 1790139547840 T1) (lB 0 0xa1c0c1a0cc0 T1)
theorem G6(M:Store)(done:List (List D)):(dJ M done)[M.length]?=Ya (.lst (lH M.length done.length)):=Zy _ _ _
theorem ZqM(M:Store)(done:List (List D))(k:Nat):(dJ M done)[M.length+1+k]?=(done[k]?).map MO.lst:=by rw[dJ,xM,yg,q9 1 k,Im,ou]
theorem ZiV(n j:Nat):lH n (j+1)=lH n j++[D.ref (n+1+j)]:=by simp[lH,List.range_succ]
theorem Zth(M:Store)(done:List (List D)):(dJ M done++[MO.lst []]).set M.length (MO.lst (lH M.length done.length++[D.ref (dJ M done).length]))=dJ M (done++[[]]):=by have h:=J6 M (MO.lst (lH M.length done.length)::done.map MO.lst++[MO.lst []]) 0 (MO.lst (lH M.length done.length++[D.ref (dJ M done).length]));rw[Pu]at h;rw[Znx]at h ⊢;rw[dJ,Yy,h,dJ,Yl,lQ,ZiV];simp
theorem ZrP(M:Store)(ds:List (List D))(cur:List D)(w:D):(dJ M (ds++[cur])).set (M.length+1+ds.length) (MO.lst (cur++[w]))=dJ M (ds++[cur++[w]]):=by rw[dJ,xM,J6,dJ];simp[q9 1]
theorem Zjx{α:Type}{enc h:α->D}{it:gU}{g:G3}{n:Nat}{elt:E3}{I:Zx->Prop}{M:Store}:∀(as:List α) (acc:List D) (env:Zx),I env ->
  (∀a∈as,∀env,I env->∃dm,g (enc a) env=Ya dm/\I dm/\∀x,elt dm (M.set n (.lst x))= .ok (h a) (M.set n (.lst x)))->(∀x,locked it (M.set n (.lst x))=true)->n<M.length->acc.length+as.length<=SZ ->
  iJ it g [] elt n (as.map enc) env (M.set n (.lst acc))= .ok (.ref n) (M.set n (.lst (acc++as.map h)))
 |[],acc,env,_,_,hl,_,_=>by simp only[vD,Zoc,hl,if_true,iD]|a::as,acc,env,hI,hf,hl,hn,hz=>by
  obtain⟨dm,hg,hI1,he⟩:=hf a Yg env hI;have gt:(M.set n (.lst acc))[n]?=Ya (.lst acc):=by simp[hn]
  have lt:acc.length<SZ:=by simp only[Yk]at hz;exact lC 1 2204024704001 T1 hz
  have ih:=Zjx as (acc++[h a]) dm hI1 (λb hb=>hf b (Ye _ hb)) hl hn (by simp only[Yl,Yk,DK]at hz ⊢;exact lC 1 0x21aec0cc02a1c0c01 T1 hz);simp only[Yv,RL,hl,if_true,hg,J5,Fq,R3.bind,he,gt,lt,DP];rw[ih];simp
theorem ZpY{enc h:α->D}{own:Nat}{i:I3}{g:G3}{elt:E3}{M M1:Store}{lock:Option Nat}{as:List α}(I:Zx->Prop)(hi:i env M= .ok ⟨as.map enc,lock⟩ M1)(M8:∀n,lock=Ya n->M1[n]?=Ya (.lst (as.map enc)))(hI:I (env++Y2 own Yj))(hf:∀a∈as,∀env,I env->∃dm,g (enc a) env=Ya dm/\I dm/\∀x,elt dm (M1++[.lst x])= .ok (h a) (M1++[.lst x]))(hz:as.length<=100000):
  jx i own g [] elt env M= .ok (.ref M1.length) (M1++[.lst (as.map h)]):=by
 have st:∀x:List D,(M1++[MO.lst []]).set M1.length (.lst x)=M1++[.lst x]:=λx=>by simp
 rw [Zqn hi];have:=Zjx (enc:=enc) (h:=h) (it:=⟨as.map enc,lock⟩) (g:=g) (n:=M1.length) (elt:=elt) (I:=I) (M:=M1++[.lst []]) as [] (env++Y2 own Yj) hI
  (λa ha e he=>by obtain⟨e1,h1,h2,h3⟩:=hf a ha e he;exact⟨e1,h1,h2,λx=>by rw[st];exact h3 x⟩)
  (λx=>by
   rw[st];cases lock with
   |none=>rfl|some n=>simp only[locked,decide_eq_true_eq];exact Zv (M8 n rfl) _) (by simp) (by simp;exact lA 1 0xf42405b00186a05b001 T1 hz)
 rw[st,st]at this;simpa using this
theorem ZmM{x:List D}(h:M[n]?=Ya (.lst x)):gY [.ref n] M= .ok (.tup x) M:=by simp[h]
noncomputable abbrev Ur:S3:=Zw (aK (e2 aN (Za 2) (eC (.int 0))) (Zw (bV (bB dF d9 (Za 1) (Zb (b_ (Zg)) (Zg)))) (aJ 2 (eC (.int 1)))) (aY)) (Zw (bV (bB dF d9 (e2 Zz (Za 1) (e1 gH (eC (.int 1)))) (Zb (Za 3) (Zg)))) (aJ 2 (e2 cJ (e2 oM (Za 2) (eC (.int 1))) (e2 (uo nG) (Za 3) (eC (.int 0))))))
theorem ZoB(n j:Nat):(lH n j).length=j:=by simp[lH]
theorem G7{M M' M2:Store}{o t:E3}(ho:o env M= .ok (.ref n) M')(hM:M'[n]?=Ya (.lst xs))(ht:t env M'= .ok d M2)(hM':M2[n]?=Ya (.lst xs))(hl:xs.length<SZ):
  bV (bB dF d9 o (Zb t (Zg))) env M= .nx env (M2.set n (.lst (xs++[d]))):=by
 have e:bB dF d9 o (Zb t (Zg)) env M= .ok .non (M2.set n (.lst (xs++[d]))):=by simp only[bB,ho,R3.bind,J2,hM,Zb,ht,Zg,RB,hM',if_pos hl,if_true]
 rw[bV,e]
theorem Zlz(M:Store)(ds:List (List D))(cur:List D)(l:Nat)(w W:D)(hw:qN w)(h1:ds.length<1000)(h2:cur.length<1000):
  (Zw (bV (bB dF d9 (e2 Zz (Za 1) (e1 gH (eC (.int 1)))) (Zb (Za 3) (Zg)))) (aJ 2 (e2 cJ (e2 oM (Za 2) (eC (.int 1))) (e2 (uo nG) (Za 3) (eC (.int 0)))))) [Ya W,Ya (.ref M.length),Ya (.int ((l+1:Nat):Int)),Ya w] (dJ M (ds++[cur]))
   = .nx [Ya W,Ya (.ref M.length),Ya (.int ((l+ar w:Nat):Int)),Ya w] (dJ M (ds++[cur++[w]])):=by
 have hr:lH M.length (ds++[cur]).length=lH M.length ds.length++[.ref (M.length+1+ds.length)]:=by rw[Yl,lQ,ZiV]
 have hat:(dJ M (ds++[cur]))[M.length+1+ds.length]?=Ya (.lst cur):=by rw[ZqM];simp
 refine(Ze (G7 (M':=dJ M (ds++[cur])) (Zj rfl (eU rfl (Ez 1)) (jy (G6 M _) (by rw[hr];exact getD_last _ _))) hat rfl hat (j6 h2 (by decide)))).trans ?_;rw[ZrP];refine Zr (Zj (Zj rfl rfl rfl) (Zj rfl rfl (Zu0 hw _)) ?_);rw[Aj];congr 2;exact Int.le_antisymm (iN [_,_] [] 0 4723607885090760 T1) (iN [_,_] [] 0 6942370369178760 T1)
theorem ZoF(M:Store)(done:List (List D))(l:Nat)(w W:D)(hw:qN w)(h1:done.length<900)(h2:∀c∈done,c.length<900)(hn:l≠0->done≠[]):
  Ur [Ya W,Ya (.ref M.length),Ya (.int (l:Int)),Ya w] (dJ M done)= .nx [Ya W,Ya (.ref M.length),Ya (.int ((stp (done,l) w).2:Nat)),Ya w] (dJ M (stp (done,l) w).1):=by
 cases l with
 |zero=>
  rw[Zon,Cq];have hz:(lH M.length done.length).length<SZ:=by rw[ZoB];exact j6 h1 (by decide)
  show Zw _ _ _ _=_;refine(Ze ((cP (Zj rfl rfl (Zxf rfl))).trans ((Ze (yO rfl (G6 M done) (jh rfl rfl) (Zv (G6 M done) _) hz)).trans (Zr (d:=.int 1) rfl)))).trans ?_;rw[Zth];exact Zlz M done [] 0 w W hw (lA 1 0x3e83b013843b011 T1 h1) (by simp)
 |succ l=>have hd:=hn (λz=>lA 1 116001825 T1 z);have e:done=done.dropLast++[done.getLast hd]:=(List.dropLast_concat_getLast hd).symm;generalize done.dropLast=ds at e;generalize done.getLast hd=cur at e;subst e;rw[Cq];show Zw _ _ _ _=_;refine(Ze (Zq (Zj rfl rfl (Zys (λz=>iN [_] [] 1 1856030881 T1 z))))).trans ?_;exact Zlz M ds cur l w W hw (by simp at h1;exact lA 1 0x3e83b013843ba0c11 T1 h1) (by have:=h2 cur (by simp);exact lA 1 0x3e83b013843b011 T1 this)
theorem Znp(s:List (List D)×Nat)(w:D):(stp s w).1.length<=s.1.length+1/\(stp s w).1≠[]:=by
 unfold stp;by_cases h:s.2=0
 .simp[h]
 .simp[h]
theorem ZsP(s:List (List D)×Nat)(w:D)(k:Nat)(h:∀c∈s.1,c.length<=k):∀c∈(stp s w).1,c.length<=k+1:=by
 have key:∀x:List (List D),(∀c∈x,c.length<=k)->∀c∈x.dropLast++[x.getLastD []++[w]],c.length<=k+1:=by
  intro x hx c hc;rcases gP.mp hc with hc|hc
  .exact Pb (hx c (List.dropLast_subset _ hc))
  .rw[Yr.mp hc,Yl,lQ];refine zX ?_;cases x with
   |nil=>exact d8 _|cons a x=>exact hx _ (by rw[List.getLastD_cons];exact(show(x.getLastD a)∈a::x by rw[List.getLastD_eq_getLast?];cases hx':x.getLast? with|none=>simp|some y=>exact Ye _ (List.mem_of_getLast? hx')))
 unfold stp;by_cases hs:s.2=0
 .simp only[hs,if_true];exact key _ λc hc=>by
   rcases gP.mp hc with hc|hc
   .exact h c hc
   .rw[Yr.mp hc];exact d8 _
 .simp only[hs,if_false];exact key _ h
theorem Zoz(M:Store)(W:D)(ws:List D)(hw:∀w∈ws,qN w)(hl:ws.length<=500)(x0:Option D)(it:gU)(hi:∀done,locked it (dJ M done)=true):
  ∃x,cX it (dN 3) Ur ws [Ya W,Ya (.ref M.length),Ya (.int 0),x0] (dJ M [])= .nx [Ya W,Ya (.ref M.length),Ya (.int ((ws.foldl stp ([],0)).2:Nat)),x] (dJ M (ws.foldl stp ([],0)).1):=by
 have main:∀(ws:List D) (done:List (List D)) (l k:Nat) (x0:Option D),(∀w∈ws,qN w)->k+ws.length<=500->done.length<=k->(∀c∈done,c.length<=k)->(l≠0->done≠[]) ->
   ∃x,cX it (dN 3) Ur ws [Ya W,Ya (.ref M.length),Ya (.int (l:Int)),x0] (dJ M done)= .nx [Ya W,Ya (.ref M.length),Ya (.int ((ws.foldl stp (done,l)).2:Nat)),x] (dJ M (ws.foldl stp (done,l)).1):=by
  intro ws
  induction ws with
  |nil=>intro done l k x0 _ _ _ _ _;exact⟨x0,by rw[ug,if_pos (hi _)];rfl⟩|cons w ws ih=>intro done l k x0 hw hk h1 h2 hn;rw[Yk]at hk;obtain⟨x,hx⟩:=ih (stp (done,l) w).1 (stp (done,l) w).2 (k+1) (Ya w) (λy hy=>hw y (Ye _ hy)) (lB 1 0x1f43b1a0cc01f43ba1c0c01 T1 hk) (by have:=(Znp (done,l) w).1;simp only at this;exact lC 2 0xa2c002101a1c001 T1 this h1) (ZsP (done,l) w k h2) (λ_=>(Znp (done,l) w).2);refine⟨x,?_⟩;rw[uh,if_pos (hi _)];have:=ZoF M done l w W (hw w Yg) (lC 2 0x3843b011f43ba2c1c011001 T1 h1 hk) (λc hc=>by have:=h2 c hc;exact lC 2 0x3843b011f43ba2c1c011001 T1 this hk) hn;simp only[dN,zP,zQ,this];exact hx
 exact main ws [] 0 0 x0 hw (lA 1 0x1f43b0ec01f43b001 T1 hl) (d8 _) (λc hc=>by cases hc) (λh=>absurd rfl h)
theorem Zhx(M:Store)(ts:List Sm)(hg:∀t∈ts,t.good)(hl:(ts.map Sm.flat).flatten.length<=500){W:D}{it:gU}(hit:it.items=(ts.map Sm.flat).flatten)(hi:∀done,locked it (dJ M done)=true)(hv:eQ (Za 0) [Ya W,Ya (.ref M.length),Ya (.int 0),Yj] (dJ M [])= .ok it (dJ M [])):∃G k,wg [W] M= .ok (.ref (M.length+k)) (M++G)/\G[k]?=Ya (.lst (ts.map λt=>.tup t.flat)):=by
 have hws:∀w∈(ts.map Sm.flat).flatten,qN w:=λw hw=>by obtain⟨l,h1,h2⟩:=XF.mp hw;obtain⟨t,_,rfl⟩:=lR.mp h1;exact Cp t w h2
 obtain⟨x,hx⟩:=Zoz M W _ hws hl Yj it hi;rw[Zoh ts hg]at hx;simp only[mQ]at hx;have hn:(ts.map Sm.flat).length<=100000:=by
  have:∀l:List Sm,(l.map Sm.flat).length<=(l.map Sm.flat).flatten.length:=by
   intro l
   induction l with
   |nil=>exact Yo _|cons t l ih=>rw[Yv,zT,Yl,Yk];obtain⟨w,r,e⟩:=Uq t;rw[e,Yk];exact lC 1 460474730680321 T1 ih
  have:=this ts;exact lB 2 0x186a05b001f43b1011001 T1 this hl
 let S:=dJ M (ts.map Sm.flat)
 have lc:jx (eQ (Za 1)) 1 (dN 4) [] (aG gY (Zb (Za 4) (Zg))) [Ya W,Ya (.ref M.length),Ya (.int ((0:Nat):Int)),x] S= .ok (.ref S.length) (S++[.lst ((iV (ts.map Sm.flat).length).map λk=>D.tup ((ts.map Sm.flat).getD k []))]):=by
  refine ZpY (enc:=λk=>D.ref (M.length+1+k)) (h:=λk=>D.tup ((ts.map Sm.flat).getD k [])) (as:=iV (ts.map Sm.flat).length) (M1:=S) (lock:=Ya M.length) (λe=>∃a b c d y,e=[a,b,c,d,y]) ?_ ?_ ⟨_,_,_,_,_,rfl⟩ ?_ (by rw[O4];exact hn)
  .show(R3.ok (D.ref M.length) S).bind _=_;simp only[R3.bind];rw[show S[M.length]?=_ from G6 M _];rfl
  .intro n hn';cases hn';exact G6 M _
  .intro k hk env ⟨a,b,c,d,y,e⟩;subst e;have hk:=O8.mp hk;refine⟨_,rfl,⟨_,_,_,_,_,rfl⟩,λz=>?_⟩;refine cQ rfl ?_;refine(ZmM (x:=(ts.map Sm.flat).getD k []) (Zv ?_ _));rw[ZqM,jG hk,Xk,jG hk];rfl
 have hlist:((iV (ts.map Sm.flat).length).map λk=>D.tup ((ts.map Sm.flat).getD k []))=ts.map λt=>D.tup t.flat:=by
  apply zR;intro j;rw[ou,ou];by_cases hj:j<ts.length
  .rw[List.getElem?_range (by simpa using hj),jG hj];simp[Xk,ou,jG hj]
  .rw[zM (by simpa using hj),zM (by simpa using hj)];rfl
 rw[hlist]at lc;have hS:S=M++(.lst (lH M.length (ts.map Sm.flat).length)::(ts.map Sm.flat).map MO.lst):=rfl;refine⟨(.lst (lH M.length (ts.map Sm.flat).length)::(ts.map Sm.flat).map MO.lst)++[.lst (ts.map λt=>.tup t.flat)],1+(ts.map Sm.flat).length,?_,?_⟩
 .have hlen:S.length=M.length+(1+(ts.map Sm.flat).length):=by rw[Znx,xM]
  refine(kJ (M':=S++[.lst (ts.map λt=>.tup t.flat)]) (d:=.ref S.length) (env:=[Ya W,Yj,Yj,Yj]) ?_).trans ?_
  .unfold T5;rw[Ze (Zr (d:=.ref M.length) (M':=dJ M []) (jh rfl rfl)),Ze (Zr (d:=.int 0) rfl),Ze ((Fv (it:=it) hv).trans (by rw[hit];exact hx))];exact cF ((Fx (Zj rfl rfl (Zxf rfl))).trans lc)
  .have hb:below M.length (.ref S.length)=false:=by show decide (S.length<M.length)=false;rw[hlen];exact decide_eq_false (λz=>lB 1 25797856273 T1 z)
   rw[dG,hb,hlen,hS,Yy];rfl
 .simp[q9 1]
theorem Zm3(M:Store)(ts:List Sm)(hg:∀t∈ts,t.good)(hl:(ts.map Sm.flat).flatten.length<=500):∃G k,wg [.tup (ts.map Sm.flat).flatten] M= .ok (.ref (M.length+k)) (M++G)/\G[k]?=Ya (.lst (ts.map λt=>.tup t.flat)):=Zhx M ts hg hl (it:=⟨(ts.map Sm.flat).flatten,Yj⟩) rfl (λ_=>rfl) rfl
theorem ZlK(M:Store)(ts:List Sm)(hg:∀t∈ts,t.good)(hl:(ts.map Sm.flat).flatten.length<=500)(hn:M[n]?=Ya (.lst (ts.map Sm.flat).flatten)):∃G k,wg [.ref n] M= .ok (.ref (M.length+k)) (M++G)/\G[k]?=Ya (.lst (ts.map λt=>.tup t.flat)):=by have hS:∀done,(dJ M done)[n]?=Ya (.lst (ts.map Sm.flat).flatten):=λdone=>Zv hn _;refine Zhx M ts hg hl (it:=⟨(ts.map Sm.flat).flatten,Ya n⟩) rfl (λdone=>decide_eq_true (hS done)) ?_;show(R3.ok (D.ref n) (dJ M [])).bind _=_;simp only[R3.bind];rw[hS []]
theorem Zri(M:Store)(t:Sm)(hg:t.good)(hl:t.flat.length<=500):∃G k,K5 [.tup t.flat] M= .ok (.ref (M.length+k)) (M++G)/\G[k]?=Ya (.lst (t.parts.map λt=>.tup t.flat)):=by
 have hgp:∀s∈t.parts,s.good:=by
  cases t with
  |num _=>intro s h;cases h|ji _=>intro s h;cases h|lF a=>intro s h;rw[Yr.mp h];exact hg|two o a b=>
   intro s h;rcases Ym.mp h with h|h
   .rw[h];exact hg.1
   .rw[Yr.mp h];exact hg.2
 have e:=t.Hv;have hl':(t.parts.map Sm.flat).flatten.length<=500:=by rw[e,Yk]at hl;exact lA 1 0x1f43b001f43ba0c01 T1 hl
 obtain⟨G,k,h1,h2⟩:=Zm3 M t.parts hgp hl';refine⟨G,k,?_,h2⟩;refine(kJ (M':=M++G) (d:=.ref (M.length+k)) (env:=[Ya (.tup t.flat)]) ?_).trans ?_
 .unfold T6;refine cF (gK (M1:=M) (a:=.tup (t.parts.map Sm.flat).flatten) ?_ h1);show R3.ok (D.tup (cutD t.flat (Ya ((1:Nat):Int)) Yj)) M=_;rw[Uo,e];rfl
 .have hb:below M.length (.ref (M.length+k))=false:=decide_eq_false (λz=>lB 1 100731921 T1 z);rw[dG,hb];rfl
noncomputable def Sm.dp:Sm->Nat
 | .num _=>1|.ji _=>1|.lF a=>a.dp|.two _ a b=>mV a.dp (b.dp+1)
noncomputable def nQ:Nat->List Sm->List Int
 |_,[]=>[]|k,t::r=>((t.dp+k:Nat):Int)::nQ (k+1) r
theorem G8{lk:List (Nat×List D)}(h:je lk M=true)(G:Store):je lk (M++G)=true:=by simp only[je,gO,decide_eq_true_eq]at h ⊢;exactλq hq=>Zv (h q hq) G
theorem Us{F:F3}{M:Store}{lk:List (Nat×List D)}(hlk:je lk M=true){i j:Nat}(I:Zx->Prop)(hI:∀env,I env->∀a b:D,I ((env.set i (Ya a)).set j (Ya b))/\∀M:Store,Za j ((env.set i (Ya a)).set j (Ya b)) M= .ok b M/\Za i ((env.set i (Ya a)).set j (Ya b)) M= .ok a M):
  ∀(ts:List Sm) (k:Nat) (acc:List D) (env:Zx),I env->(∀t∈ts,∀M,F [.tup t.flat] M= .ok (.int (t.dp:Int)) M)->acc.length+ts.length<=1000 ->
  jf lk (jc [i,j]) [] (e2 cJ (bf F (Zb (Za j) (Zg))) (Za i)) M.length (kW k (ts.map λt=>D.tup t.flat)) env (M++[.lst acc])= .ok (.ref M.length) (M++[.lst (acc++(nQ k ts).map D.int)])
 |[],k,acc,env,_,_,_=>by show jf _ _ _ _ _ [] _ _=_;simp only[jf,G8 hlk,if_true,nQ,vD,iD]|t::ts,k,acc,env,hE,hF,hl=>by
  rw[Yk]at hl;obtain⟨hE',hv⟩:=hI env hE (.int (k:Int)) (.tup t.flat);have ih:=Us hlk I hI ts (k+1) (acc++[.int ((t.dp+k:Nat):Int)]) _ hE' (λt ht=>hF t (Ye _ ht)) (by simp;exact lB 1 0x3e83b1a0cc03e83ba1c0c01 T1 hl);have he:e2 cJ (bf F (Zb (Za j) (Zg))) (Za i) ((env.set i (Ya (.int (k:Int)))).set j (Ya (.tup t.flat))) (M++[.lst acc])= .ok (.int ((t.dp+k:Nat):Int)) (M++[.lst acc]):=by refine Zj (gK (hv _).1 (hF t Yg _)) (hv _).2 ?_;rw[Aj];rfl
  have gt:(M++[MO.lst acc])[M.length]?=Ya (.lst acc):=Zy _ _ _;have lt:acc.length<SZ:=j5 (show acc.length<=1000 by exact lB 1 0x3e83b003e83ba1c0c01 T1 hl) (by decide);have st:(M++[MO.lst acc]).set M.length (.lst (acc++[.int ((t.dp+k:Nat):Int)]))=M++[.lst (acc++[.int ((t.dp+k:Nat):Int)])]:=by simpa using J6 M [.lst acc] 0 _
  show jf _ _ _ _ _ (.tup [.int (k:Int),.tup t.flat]::kW (k+1) (ts.map λt=>D.tup t.flat)) _ _=_;simp only[jf,G8 hlk,if_true,jc,J4,J3,J5,R3.bind,he,gt,lt,st];rw[ih];simp[nQ]
theorem Zp5(t:Sm):sJ 1 (nQ 0 t.parts)=(t.dp:Int):=by
 cases t with
 |num _=>rfl|ji _=>rfl|lF a=>rfl|two o a b=>show(if((b.dp+(0+1):Nat):Int)>((a.dp+0:Nat):Int)then((b.dp+(0+1):Nat):Int)else((a.dp+0:Nat):Int))=((mV a.dp (b.dp+1):Nat):Int);split <;>omega
theorem Zro{t s:Sm}(h:s∈t.parts):s.flat.length<t.flat.length:=by
 have e:=t.Hv;have:s.flat.length<=(t.parts.map Sm.flat).flatten.length:=by
  cases t with
  |num _=>cases h|ji _=>cases h|lF a=>rw[Yr.mp h];simp[Sm.parts]|two o a b=>
   rcases Ym.mp h with h|h
   .rw[h];simp[Sm.parts]
   .rw[Yr.mp h];simp[Sm.parts]
 rw[e,Yk];exact lB 1 43419504641 T1 this
theorem Zm0{t:Sm}(hg:t.good):∀s∈t.parts,s.good:=by
 cases t with
 |num _=>intro s h;cases h|ji _=>intro s h;cases h|lF a=>intro s h;rw[Yr.mp h];exact hg|two o a b=>
  intro s h;rcases Ym.mp h with h|h
  .rw[h];exact hg.1
  .rw[Yr.mp h];exact hg.2
theorem Zqu(t:Sm):t.parts.length<=2:=by cases t<;>simp[Sm.parts]
theorem ZjK:∀(n:Nat) (t:Sm),t.good->t.flat.length<=n->n<=500->∀M:Store,yI n [.tup t.flat] M= .ok (.int (t.dp:Int)) M
 |0,t,_,hl,_,M=>by rw[t.Hv,Yk]at hl;exact(lA 1 116001793 T1 hl).elim|n+1,t,hg,hl,hn,M=>by
  have hlp:=Zqu t;have ih:∀s∈t.parts,∀M,yI n [.tup s.flat] M= .ok (.int (s.dp:Int)) M:=λs hs=>ZjK n s (Zm0 hg s hs) (by have:=Zro hs;exact lC 2 563648976195601 T1 this hl) (lA 1 0x1f43b001f43ba0c01 T1 hn);obtain⟨G,k,h1,h2⟩:=Zri M t hg (Yp hl hn);have h3:(M++G)[M.length+k]?=Ya (.lst (t.parts.map λt=>.tup t.flat)):=by rw[yg];exact h2
  refine Rt.pure (env:=[Ya (.tup t.flat),Yj]) (G:=G++[.lst ((nQ 0 t.parts).map D.int)]) ?_ rfl;unfold T7;refine(Ze (Zr (gK rfl h1))).trans ?_;have lk:je [(M.length+k,t.parts.map λt=>D.tup t.flat)] (M++G)=true:=by simp only[je,iU,O_,Jb];exact decide_eq_true h3
  have lp:=Us (F:=yI n) lk (i:=2) (j:=3) (λe=>∃a b c d,e=[a,b,c,d]) (λenv ⟨a,b,c,d,e⟩ x y=>by subst e;exact⟨⟨_,_,_,_,rfl⟩,λM=>⟨rfl,rfl⟩⟩) t.parts 0 [] [Ya (.tup t.flat),Ya (.ref (M.length+k)),Yj,Yj] ⟨_,_,_,_,rfl⟩ ih (by simp;exact lA 1 0x3e83b0021b001 T1 hlp);rw[mQ]at lp;rw[←Yy];refine cF (cQ (M1:=M++G++[.lst ((nQ 0 t.parts).map D.int)]) (a:=.ref (M++G).length) ?_ ?_)
  .show(R3.bind (R3.bind (R3.ok (D.ref (M.length+k)) (M++G)) _) _)=_;simp only[R3.bind,h3];exact lp
  .rw[Zl0 (Zy _ _ []),Zp5]
theorem Zq8{t:Sm}(hg:t.good)(hl:t.flat.length<=61)(M:Store):Gy [.tup t.flat] M= .ok (.int (t.dp:Int)) M:=by have key:∀n,t.flat.length<=n->n<=500->∀M,yI n [.tup t.flat] M= .ok (.int (t.dp:Int)) M:=λn h1 h2=>ZjK n t hg h1 h2;exact key 61 hl (by decide) M
noncomputable abbrev LET:List Nat:=[97,98,99,100,101,102,103,104,105,106,107,108,109,110,111,112,113,114,115,116,117,118,119,120,121,122]
structure sW(x:List Nat):Prop where
 pos:1<=x.length
 le:x.length<=8
 own:x∉p_
 low:∀c∈x,97<=c/\c<=122
theorem ZuM{c:Nat}(h:97<=c/\c<=122):c∈LET:=(Xz:c∈List.range' 97 26↔_).mpr ⟨h.1,X7 h.2⟩
theorem in_words(x:List Nat)(M:Store):kj (.str x) (.tup (p_.map D.str)) M= .ok (.bl (decide (x∈p_))) M:=by
 have hf:(b8 (.str x)&&(p_.map D.str).all b8)=true:=rfl;have he:∀l:List (List Nat),(l.map D.str).any (λy=>cG y (.str x))=decide (x∈l):=by
  intro l
  induction l with
  |nil=>rfl|cons y l ih=>
   rw[Yv,jY,ih,ZwV];by_cases h:y=x
   .subst h;simp
   .have h':x≠y:=λe=>h e.symm;simp[h,h']
 simp only[kj,Zvo,hf,if_true,he]
theorem len_str{x:List Nat}(h:x.length<=1000){i:Nat}(hv:Za i env M= .ok (.str x) M):aG bx (Zb (Za i) (Zg)) env M= .ok (.int (x.length:Int)) M:=cQ hv (by simp only[Fg,Fi,Fj,uf,if_pos (show x.length<=SZ from Yp h (by decide))])
noncomputable def nameB(x:List Nat):Bool:=decide (1<=x.length)&&(decide (x.length<=8)&&(!decide (x∈p_)&&x.all λc=>decide (c∈LET)))
theorem ZjH{x:List Nat}(h:x.length<=1000)(M:Store):nJ [.str x] M= .ok (.bl (nameB x)) M:=by
 have hz:x.length<=SZ:=Yp h (by decide);have ln:aG bx (Zb (Za 0) (Zg)) [Ya (.str x)] M= .ok (.int (x.length:Int)) M:=len_str h rfl;have no:∀(hb:nameB x=false),dz (e2 jN (aG bx (Zb (Za 0) (Zg))) (eC (.int 1))) (dz (e2 jo (aG bx (Zb (Za 0) (Zg))) (qW)) (e2 kj (Za 0) (uF))) [Ya (.str x)] M= .ok (.bl true) M->nJ [.str x] M= .ok (.bl (nameB x)) M:=λhb hc=>by rw[hb];refine Rt.pure (G:=[]) (env:=[Ya (.str x)]) ?_ rfl;rw[iD];unfold K6;exact iK ((cP hc).trans (cF rfl))
 by_cases h1:x.length<1
 .exact no (by simp[nameB];omega) (yj (Zj ln rfl (by rw[Ak,decide_eq_true (by omega)])))
 have c1:=m_ (g:=dz (e2 jo (aG bx (Zb (Za 0) (Zg))) (qW)) (e2 kj (Za 0) (uF))) (Zj (op:=jN) (g:=eC (.int 1)) ln rfl (by rw[Ak,decide_eq_false (by exactλz=>iN [_] [] 2 455352125585 T1 z h1)]));by_cases h2:8<x.length
 .exact no (by simp[nameB];omega) (c1.trans (yj (Zj ln (g:=qW) (b:=.int 8) rfl (by rw[pN,decide_eq_true (by exact iN [_] [] 1 9353248119569 T1 h2)]))))
 have c2:=c1.trans (m_ (g:=e2 kj (Za 0) (uF)) (Zj (op:=jo) ln (g:=qW) (b:=.int 8) rfl (by rw[pN,decide_eq_false (by exactλz=>iN [_] [] 2 0x6081b510881b91 T1 z h2)])));have c3:e2 kj (Za 0) (uF) [Ya (.str x)] M= .ok (.bl (decide (x∈p_))) M:=Zj rfl (g:=uF) (b:=.tup (p_.map D.str)) rfl (in_words x M);by_cases h3:x∈p_
 .exact no (by simp[nameB,h3]) (c2.trans (c3.trans (by rw[decide_eq_true h3])))
 have hb:nameB x=x.all λc=>decide (c∈LET):=by unfold nameB;rw[decide_eq_true (show 1<=x.length by exact iW h1),decide_eq_true (show x.length<=8 by exact iW h2),decide_eq_false h3];rfl
 rw[hb];refine Rt.pure (G:=[.lst (x.map λc=>D.bl (decide (c∈LET)))]) (env:=[Ya (.str x)]) ?_ rfl;unfold K6;refine(Ze (Zq (c2.trans (c3.trans (by rw[decide_eq_false h3]))))).trans ?_;have hi:(eQ (Za 0)) [Ya (.str x)] M= .ok ⟨x.map (λc=>D.str [c]),Yj⟩ M:=by simp only[eQ,Za,Io,R3.bind,if_pos hz]
 have lc:=A_ (h:=λc=>D.bl (decide (c∈LET))) (own:=1) (i:=1) (elt:=(e2 kj (Za 1) (wL))) hi (λn z=>nomatch z)
  (λc hc M'=>Zj (a:=.str [c]) (b:=.str LET) rfl rfl (in_str c LET M')) (Yp h (by decide))
 exact cF (cQ lc (all_map (Zy _ _ _)))
theorem sW.b{x:List Nat}(h:sW x):nameB x=true:=by unfold nameB;rw[decide_eq_true h.pos,decide_eq_true h.le,decide_eq_false h.own,gO.mpr λc hc=>decide_eq_true (ZuM (h.low c hc))];rfl
theorem sW.is{x:List Nat}(h:sW x)(M:Store):nJ [.str x] M= .ok (.bl true) M:=by rw[ZjH (Yp h.le (by decide)),h.b]
theorem sW.nop{x:List Nat}(h:sW x):nP x=false:=decide_eq_false λz=>h.own (by rcases z with rfl|rfl|rfl|rfl <;>decide)
theorem Zrw{x:List Nat}(h:nP x=true):(x=[97,100,100]\/x=[115,117,98]\/x=[109,111,114,101]\/x=[99,101,108,108]):=of_decide_eq_true h
theorem Zu2(x:List Nat)(M:Store):uE nG (.str x) M= .ok (.bl (nP x)) M:=by
 show R3.ok (D.bl (dX x nG).isSome) M=_;rw[Zqi];by_cases h1:x=[97,100,100]
 .subst h1;rfl
 by_cases h2:x=[115,117,98]
 .subst h2;rfl
 by_cases h3:x=[109,111,114,101]
 .subst h3;rfl
 by_cases h4:x=wD
 .subst h4;rfl
 have:nP x=false:=decide_eq_false λz=>z.elim h1 λz=>z.elim h2 λz=>z.elim h3 h4;rw[if_neg h1,if_neg h2,if_neg h3,if_neg h4,this];rfl
theorem Ut(x:List Nat)(M:Store):BX [.str x] M= .ok (.bl (nP x)) M:=(kJ (M':=M) (env:=[Ya (.str x)]) (cF (eU rfl (Zu2 x M)))).trans (ZjD rfl)
noncomputable def jA:D->List Nat
 | .int i=>cY i|.str x=>x|_=>[]
inductive yP:D->Prop
 |int (i:Int) (h:i.natAbs<10^60):yP (.int i)
 |ji (x:List Nat) (h:sW x):yP (.str x)
 |op (x:List Nat) (h:nP x=true):yP (.str x)
noncomputable def Sm.fit:Sm->Prop
 | .num i=>i.natAbs<10^60|.ji x=>sW x|.lF a=>a.fit|.two _ a b=>a.fit/\b.fit
theorem G9:∀t:Sm,t.fit->t.good
 | .num _,_=>trivial|.ji _,h=>h.nop|.lF a,h=>G9 a h|.two _ a b,h=>⟨G9 a h.1,G9 b h.2⟩
theorem Zvw(o:Nat):nP (Lg o)=true:=by
 match o with
 |0=>rfl|1=>rfl|_+2=>rfl
theorem Li:∀(t:Sm),t.fit->∀w∈t.flat,yP w
 | .num i,h,w,hw=>by rw[Yr.mp hw];exact .int i h|.ji x,h,w,hw=>by rw[Yr.mp hw];exact .ji x h|.lF a,h,w,hw=>by
  rcases Ym.mp hw with hw|hw
  .rw[hw];exact .op _ rfl
  .exact Li a h w hw
 | .two o a b,h,w,hw=>by
  rcases Ym.mp hw with hw|hw
  .rw[hw];exact .op _ (Zvw o)
  .rcases gP.mp hw with hw|hw
   .exact Li a h.1 w hw
   .exact Li b h.2 w hw
theorem Zlb{c:Nat}(hc:c∈cY i):c<=57:=by
 cases i with
 |ofNat n=>rw[show cY (Int.ofNat n)=cu n from GZ n]at hc;exact(wA n c hc).2|negSucc n=>
  rw[Lf]at hc;rcases Ym.mp hc with h|h
  .exact lA 1 0x392b002d2b021 T1 h
  .exact(wA _ c h).2
theorem Znq(i:Int):∃c r,cY i=c::r:=by
 cases i with
 |ofNat n=>
  rw[show cY (Int.ofNat n)=cu n from GZ n];cases e:cu n with
  |nil=>exact absurd e (GR n)|cons c r=>exact⟨c,r,rfl⟩
 |negSucc n=>exact⟨_,_,Lf n⟩
theorem ZqI(i:Int):nP (cY i)=false:=by obtain⟨c,r,e⟩:=Znq i;have hc:c<=57:=Zlb (i:=i) (by rw[e];exact Yg);refine decide_eq_false λz=>?_;rw[e]at z;rcases z with z|z|z|z<;>(have:=(iY z).1;omega)
theorem Zrc(i:Int):nameB (cY i)=false:=by
 obtain⟨c,r,e⟩:=Znq i;have hc:c<=57:=Zlb (i:=i) (by rw[e];exact Yg);have:decide (c∈LET)=false:=decide_eq_false λz=>by simp only[Ym,ig,or_false]at z;omega
 unfold nameB;rw[e,iU,this,Pz,DY,DY,DY]
theorem Zvd{x:List Nat}(h:nP x=true):1<=x.length/\x.length<=60/\∀c∈x,97<=c:=by rcases Zrw h with rfl|rfl|rfl|rfl <;>decide
theorem Zvj{w:D}(h:yP w)(hv:∀M,Za 3 env M= .ok (.str (jA w)) M):
  dz (bf BX (Zb (Za 3) (Zg))) (dz (bf nJ (Zb (Za 3) (Zg))) (bf qb (Zb (Za 3) (Zg)))) env M= .ok (.bl true) M:=by
 cases h with
 |int i hi=>rw[m_ ((gK (hv M) (Ut _ M)).trans (by rw[show jA (.int i)=cY i from rfl,ZqI])),m_ ((gK (hv M) (ZjH (x:=cY i) (Yp (ZrR hi) (by decide)) M)).trans (by rw[Zrc]))];exact gK (hv M) (ZlM hi M)|ji x hx=>rw[m_ ((gK (hv M) (Ut _ M)).trans (by rw[show jA (.str x)=x from rfl,hx.nop]))];exact yj (gK (hv M) (hx.is M))|op x hx=>exact yj ((gK (hv M) (Ut _ M)).trans (by rw[show jA (.str x)=x from rfl,hx]))
theorem Zuo{w:D}(h:yP w)(hv:∀M,Za 3 env M= .ok (.str (jA w)) M):
  jL (bf qb (Zb (Za 3) (Zg))) (aG oU (Zb (Za 3) (Zg))) (Za 3) env M= .ok w M:=by
 cases h with
 |int i hi=>rw[Fx (gK (hv M) (ZlM hi M))];have r:=Um i hi;refine cQ (hv M) ?_;show oU [.str (cY i)] M=_;simp only[oU,r.1];exact if_pos (Yp r.2.1 (by decide))|ji x hx=>rw[Fy (gK (hv M) (Zli hx.pos (Yp hx.le (by decide)) (λc hc=>(hx.low c hc).1) M))];exact hv M|op x hx=>have q:=Zvd hx;rw[Fy (gK (hv M) (Zli q.1 q.2.1 q.2.2 M))];exact hv M
structure Lj(ts:List Sm):Prop where
 fit:∀t∈ts,t.fit
 len:(ts.map Sm.flat).flatten.length<=60
 dep:sJ 0 (nQ 0 ts)<=6
noncomputable abbrev dO(ts:List Sm):List D:=(ts.map Sm.flat).flatten
theorem Zpe{ts:List Sm}(h:∀t∈ts,t.fit):∀w∈dO ts,yP w:=λw hw=>by obtain⟨l,h1,h2⟩:=XF.mp hw;obtain⟨t,ht,rfl⟩:=lR.mp h1;exact Li t (h t ht) w h2
theorem Zn4{ts:List Sm}{t:Sm}(h:t∈ts):t.flat.length<=(dO ts).length:=by
 induction ts with
 |nil=>cases h|cons a ts ih=>
  rw[dO,Yv,zT,Yl];rcases Ym.mp h with e|e
  .rw[e];exact lU _ _
  .have:=ih e;rw[dO]at this;exact lC 1 5033168897 T1 this
theorem Uu(ts:List Sm):ts.length<=(dO ts).length:=by
 induction ts with
 |nil=>exact Yo _|cons t l ih=>rw[dO,Yv,zT,Yl,Yk];obtain⟨w,r,e⟩:=Uq t;rw[e,Yk];rw[dO]at ih;exact lC 1 460474730680321 T1 ih
theorem ZkX{ts:List Sm}(H:Lj ts)(hn:M[n]?=Ya (.lst ((dO ts).map λw=>D.str (jA w)))):∃G k,K7 [.ref n] M= .ok (.ref (M.length+k)) (M++G)/\G[k]?=Ya (.lst (ts.map λt=>.tup t.flat)):=by
 have hfit:=Zpe H.fit;have hz:(dO ts).length<=100000:=Yp H.len (by decide)
 let M1:=M++[MO.lst ((dO ts).map λ_=>D.bl true)]
 let M2:=M1++[MO.lst ((dO ts).map λw=>w)]
 have hn1:M1[n]?=Ya (.lst ((dO ts).map λw=>D.str (jA w))):=Zv hn _;have hi:∀{S:Store} (_:S[n]?=Ya (.lst ((dO ts).map λw=>D.str (jA w)))),(eQ (Za 0)) [Ya (.ref n),Yj,Yj] S= .ok ⟨(dO ts).map (λw=>D.str (jA w)),Ya n⟩ S:=λh=>by show(R3.ok (D.ref n) _).bind _=_;simp only[R3.bind];rw[h]
 have l1:=A_ (h:=λ_=>D.bl true) (own:=1) (i:=3) (elt:=dz (bf BX (Zb (Za 3) (Zg))) (dz (bf nJ (Zb (Za 3) (Zg))) (bf qb (Zb (Za 3) (Zg))))) (hi hn) (λm e=>by cases e;exact hn)
  (λw hw M'=>Zvj (hfit w hw) λ_=>rfl) hz
 have l2:=A_ (h:=λw=>w) (own:=1) (i:=3) (elt:=jL (bf qb (Zb (Za 3) (Zg))) (aG oU (Zb (Za 3) (Zg))) (Za 3)) (hi hn1) (λm e=>by cases e;exact hn1)
  (λw hw M'=>Zuo (hfit w hw) λ_=>rfl) hz
 have Cr:M2[M1.length]?=Ya (.lst (dO ts)):=(Zy M1 (MO.lst ((dO ts).map λw=>w)) []).trans (by rw[List.map_id']);obtain⟨G,k,h1,h2⟩:=ZlK M2 ts (λt ht=>G9 t (H.fit t ht)) (Yp H.len (by decide)) Cr;have h3:(M2++G)[M2.length+k]?=Ya (.lst (ts.map λt=>.tup t.flat)):=by rw[yg];exact h2
 have lk:je [(M2.length+k,ts.map λt=>D.tup t.flat)] (M2++G)=true:=by simp only[je,iU,O_,Jb];exact decide_eq_true h3
 have hfew:=Uu ts;have V_:(dO ts).length<=60:=H.len;have lp:=Us (F:=Gy) lk (i:=3) (j:=4) (λe=>∃a b c d f,e=[a,b,c,d,f]) (λenv ⟨a,b,c,d,f,e⟩ x y=>by subst e;exact⟨⟨_,_,_,_,_,rfl⟩,λM=>⟨rfl,rfl⟩⟩) ts 0 [] [Ya (.ref n),Ya (.ref (M2.length+k)),Yj,Yj,Yj] ⟨_,_,_,_,_,rfl⟩ (λt ht M=>Zq8 (G9 t (H.fit t ht)) (by have:=Zn4 ht;exact lB 2 0x3d2b003c2b1011001 T1 this V_) M) (by simp;exact lB 2 0x3e83b1001013c2b001 T1 V_ hfew);rw[mQ]at lp;refine⟨[MO.lst ((dO ts).map λ_=>D.bl true),MO.lst ((dO ts).map λw=>w)]++G++[.lst ((nQ 0 ts).map D.int)],2+k,?_,?_⟩
 .have hlen:M2.length=M.length+2:=by simp[M2,M1]
  refine(kJ (M':=M2++G++[.lst ((nQ 0 ts).map D.int)]) (d:=.ref (M2.length+k)) (env:=[Ya (.ref n),Yj,Yj]) ?_).trans ?_
  .unfold T9;have t1:=all_map (p:=λ_=>true) (l:=dO ts) (Zy M (MO.lst ((dO ts).map λ_=>D.bl true)) []);rw[show((dO ts).all λ_=>true)=true from gO.mpr λ_ _=>rfl]at t1;refine(Ze (Zq (M':=M1) (eU (cQ l1 t1) rfl))).trans ?_;refine(Ze (Zr (d:=.ref (M2.length+k)) (M':=M2++G) (gK l2 h1))).trans ?_;refine(Ze (Zq (M':=M2++G) (Zj rfl rfl rfl))).trans ?_;refine(Ze (Zr (d:=.ref (M2++G).length) (M':=M2++G++[.lst ((nQ 0 ts).map D.int)]) ?_)).trans ?_
   .show(R3.bind (R3.bind (R3.ok (D.ref (M2.length+k)) (M2++G)) _) _)=_;simp only[R3.bind,h3];exact lp
   .refine cF ((Fx (M1:=M2++G++[.lst ((nQ 0 ts).map D.int)]) (Zj (cQ rfl (Zl0 (Zy (M2++G) _ []))) (g:=wK) (b:=.int 6) rfl (Zx2 H.dep))).trans rfl)
  .have hb:below M.length (.ref (M2.length+k))=false:=by show decide (M2.length+k<M.length)=false;rw[hlen];exact decide_eq_false (λz=>lB 1 6601929968657 T1 z)
   rw[dG,hb,hlen,xM];simp[M2,M1]
 .rw[Yy,q9 2 k];show(G++[MO.lst ((nQ 0 ts).map D.int)])[k]?=_;exact Zv h2 _
noncomputable abbrev cU:List Nat:=[115,101,116]
noncomputable abbrev Cu:List Nat:=[116,101,108,108]
noncomputable abbrev aM:List Nat:=[119,104,101,110]
noncomputable abbrev dY:List Nat:=[119,104,105,108,101]
noncomputable abbrev aQ:List Nat:=[101,108,115,101]
noncomputable abbrev aR:List Nat:=[101,110,100]
structure Rw where
 h:List Nat
 xs:List (List Nat)
 ts:List Sm
noncomputable def Rw.words(r:Rw):List (List Nat):=r.h::(r.xs++(dO r.ts).map jA)
noncomputable def Rw.deed(r:Rw):List D:=.str r.h::(r.xs.map D.str++r.ts.map λt=>D.tup t.flat)
structure yQ(r:Rw):Prop where
 sm:dX r.h nH=Ya (r.ts.length:Int)
 nx:r.xs.length=if r.h=cU then 1 else 0
 nm:∀x∈r.xs,sW x
 ok:Lj r.ts
 le:r.xs.length+(dO r.ts).length<=59
theorem Cv{o:E3}{lo hi:yc}{a b:Option Int}(ho:o env M= .ok (.ref n) M)(hl:lo env M= .ok a M)(hh:hi env M= .ok b M)(h:M[n]?=Ya (.lst ds)):dD o lo hi env M= .ok (.ref M.length) (M++[.lst (cutD ds a b)]):=by simp only[dD,ho,hl,hh,R3.bind,Aq,h];rfl
theorem Zr8(a:α)(x y:List α):cutD (a::(x++y)) (Ya ((1:Nat):Int)) (Ya ((1+x.length:Nat):Int))=x:=by unfold cutD;rw[Ew,Ew,xK (show 1+x.length<=(a::(x++y)).length by simp only[Yk,Yl];exact lB 0 43231480512 T1),xK (show 1<=(a::(x++y)).length by simp),XX];simp
variable{m:Nat}
theorem Lk{x y:List D}(h1:M[n]?=Ya (.lst x))(h2:M[m]?=Ya (.lst y))(hz:x.length+y.length<=900000):cJ (.ref n) (.ref m) M= .ok (.ref M.length) (M++[.lst (x++y)]):=by rw[Zru,h1,h2];exact if_pos (Yp hz (by decide))
theorem ZnI{n:Nat}:∀{l:List D},(∀w∈l,qN w)->bJ n l=true
 |[],_=>rfl|w::l,h=>by
  have h1:below n w=true:=by cases h w Yg<;>rfl
  show(below n w&&bJ n l)=true;rw[h1,ZnI λx hx=>h x (Ye _ hx)];rfl
theorem ZiM{n:Nat}:∀{x y:List D},bJ n x=true->bJ n y=true->bJ n (x++y)=true
 |[],_,_,h=>h|a::x,y,h,k=>by have h:(below n a&&bJ n x)=true:=h;rw[Y5]at h;show(below n a&&bJ n (x++y))=true;rw[h.1,ZiM h.2 k];rfl
theorem ZhV{n:Nat}:∀ts:List Sm,bJ n (ts.map λt=>D.tup t.flat)=true
 |[]=>rfl|t::ts=>by show(bJ n t.flat&&bJ n (ts.map λt=>D.tup t.flat))=true;rw[ZnI (Cp t),ZhV ts];rfl
theorem Ziv{n:Nat}:∀xs:List (List Nat),bJ n (xs.map D.str)=true
 |[]=>rfl|_::xs=>Ziv xs
theorem Rw.below{n:Nat}(r:Rw):below n (.tup r.deed)=true:=by show bJ n (.str r.h::(r.xs.map D.str++r.ts.map λt=>D.tup t.flat))=true;show bJ n (r.xs.map D.str++r.ts.map λt=>D.tup t.flat)=true;exact ZiM (Ziv _) (ZhV _)
variable{r:Rw}
theorem ZgN(H:yQ r)(hn:M[n]?=Ya (.lst (r.words.map D.str))):Gz [.ref n] M= .ok (.tup r.deed) M:=by
 have hlen:r.words.length=1+r.xs.length+(dO r.ts).length:=by simp only[Rw.words,Yk,Yl,Yw];exact gn (lB 0 1145894407360 T1) (lB 0 0xa10cc10acc0 T1)
 have hle:=H.le;have e0:∀{S:Store} {a b:Option D},S[n]?=Ya (.lst (r.words.map D.str))->e2 Zz (Za 0) (eC (.int 0)) [Ya (.ref n),a,b] S= .ok (.str r.h) S:=λh=>Zj rfl rfl (jy h (iy _ 0))
 let B:Int:=((1+r.xs.length:Nat):Int)
 have hB:jL (e2 aN (e2 Zz (Za 0) (eC (.int 0))) (eC (.str [115,101,116]))) (eC (.int 2)) (eC (.int 1)) [Ya (.ref n),Yj,Yj] M= .ok (.int B) M:=by
  by_cases h:r.h=cU
  .have e:B=2:=by show((1+r.xs.length:Nat):Int)=2;rw[H.nx,if_pos h];rfl
   rw[Fx (M1:=M) (Zj (e0 hn) rfl (by simp only[aN,vU,decide_eq_true h])),e];rfl
  .have e:B=1:=by show((1+r.xs.length:Nat):Int)=1;rw[H.nx,if_neg h];rfl
   rw[Fy (M1:=M) (Zj (e0 hn) rfl (by simp only[aN,vU,decide_eq_false h])),e];rfl
 let M1:=M++[MO.lst (r.xs.map D.str)]
 let M2:=M1++[MO.lst (r.xs.map λ_=>D.bl true)]
 let M3:=M2++[MO.lst ((dO r.ts).map λw=>D.str (jA w))]
 have hn2:M2[n]?=Ya (.lst (r.words.map D.str)):=Zv (Zv hn _) _;have ew:r.words.map D.str=D.str r.h::(r.xs.map D.str++(dO r.ts).map λw=>D.str (jA w)):=by show D.str r.h::(r.xs++(dO r.ts).map jA).map D.str=_;rw[pI,zV];rfl
 have hx:(r.xs.map D.str).length=r.xs.length:=Yw _;have c1:cutD (r.words.map D.str) (Ya ((1:Nat):Int)) (Ya B)=r.xs.map D.str:=by have:=Zr8 (D.str r.h) (r.xs.map D.str) ((dO r.ts).map λw=>D.str (jA w));rw[hx]at this;rw[ew];exact this
 have c2:cutD (r.words.map D.str) (Ya B) Yj=(dO r.ts).map λw=>D.str (jA w):=by rw[Uo,ew,q9,List.drop_succ_cons,←hx,XM]
 have c3:cutD (r.words.map D.str) Yj (Ya B)=D.str r.h::r.xs.map D.str:=by rw[Zuw,ew,q9,List.take_succ_cons,←hx,O9]
 have s1:eQ (dD (Za 0) (bQ (eC (.int 1))) (bQ (Za 1))) [Ya (.ref n),Ya (.int B),Yj] M= .ok ⟨r.xs.map D.str,Ya M.length⟩ M1:=by have:=Cv (env:=[Ya (.ref n),Ya (.int B),Yj]) (o:=Za 0) (lo:=bQ (eC (.int 1))) (hi:=bQ (Za 1)) (a:=Ya ((1:Nat):Int)) (b:=Ya B) rfl rfl rfl hn;rw[c1]at this;show(dD _ _ _ _ _).bind _=_;rw[this];simp only[R3.bind,Zy];rfl
 have l1:=A_ (h:=λ_=>D.bl true) (own:=1) (i:=3) (elt:=bf nJ (Zb (Za 3) (Zg))) s1 (λm e=>by cases e;exact Zy M _ [])
  (λx hx M'=>gK rfl ((H.nm x hx).is M')) (lB 1 0x186a05b003b2b10c01 T1 hle)
 have t1:=all_map (p:=λ_=>true) (l:=r.xs) (Zy M1 (MO.lst (r.xs.map λ_=>D.bl true)) []);rw[show(r.xs.all λ_=>true)=true from gO.mpr λ_ _=>rfl]at t1;have s2:dD (Za 0) (bQ (Za 1)) (gJ) [Ya (.ref n),Ya (.int B),Yj] M2= .ok (.ref M2.length) M3:=by have:=Cv (env:=[Ya (.ref n),Ya (.int B),Yj]) (o:=Za 0) (lo:=bQ (Za 1)) (hi:=gJ) (a:=Ya B) (b:=Yj) rfl rfl rfl hn2;rw[c2]at this;exact this
 obtain⟨G,k,h1,h2⟩:=ZkX H.ok (n:=M2.length) (M:=M3) (Zy M2 _ [])
 let M4:=M3++G
 have hk:M4[M3.length+k]?=Ya (.lst (r.ts.map λt=>.tup t.flat)):=by show(M3++G)[_]?=_;rw[yg];exact h2
 have hn4:M4[n]?=Ya (.lst (r.words.map D.str)):=Zv (Zv hn2 _) _
 let M5:=M4++[MO.lst (D.str r.h::r.xs.map D.str)]
 let M6:=M5++[MO.lst r.deed]
 have s3:dD (Za 0) (gJ) (bQ (Za 1)) [Ya (.ref n),Ya (.int B),Ya (.ref (M3.length+k))] M4= .ok (.ref M4.length) M5:=by have:=Cv (env:=[Ya (.ref n),Ya (.int B),Ya (.ref (M3.length+k))]) (o:=Za 0) (lo:=gJ) (hi:=bQ (Za 1)) (a:=Yj) (b:=Ya B) rfl rfl rfl hn4;rw[c3]at this;exact this
 have hfew:=Uu r.ts;have s4:e2 cJ (dD (Za 0) (gJ) (bQ (Za 1))) (Za 2) [Ya (.ref n),Ya (.int B),Ya (.ref (M3.length+k))] M4= .ok (.ref M5.length) M6:=Zj s3 rfl (Lk (Zy M4 _ []) (Zv hk _) (by simp;exact lC 2 0xdbba05b0a2cc03b2b12c011001 T1 hfew hle));have hM6:M6=M++([MO.lst (r.xs.map D.str),MO.lst (r.xs.map λ_=>D.bl true),MO.lst ((dO r.ts).map λw=>D.str (jA w))]++G++[MO.lst (D.str r.h::r.xs.map D.str),MO.lst r.deed]):=by simp[M6,M5,M4,M3,M2,M1]
 refine Rt.pure (G:=[MO.lst (r.xs.map D.str),MO.lst (r.xs.map λ_=>D.bl true),MO.lst ((dO r.ts).map λw=>D.str (jA w))]++G++[MO.lst (D.str r.h::r.xs.map D.str),MO.lst r.deed]) (env:=[Ya (.ref n),Yj,Yj]) ?_ r.below;rw[←hM6];unfold T_;have q1:e1 (KN nH) (e2 Zz (Za 0) (eC (.int 0))) [Ya (.ref n),Yj,Yj] M= .ok (.bl false) M:=eU (e0 hn) (by show R3.ok (D.bl (!(dX r.h nH).isSome)) M=_;rw[H.sm];rfl);have q2:e2 jo (aG bx (Zb (Za 0) (Zg))) (uU) [Ya (.ref n),Yj,Yj] M= .ok (.bl false) M:=Zj (cQ rfl (kO hn)) (g:=uU) (b:=.int 60) rfl (by rw[pN,decide_eq_false (by rw[Yw,hlen];exactλz=>iN [_,_] [] 2 0x63b2b10c0110acc83c2b91 T1 z hle)]);refine(Ze (Zq ((m_ q1).trans q2))).trans ?_;refine(Ze (Zr hB)).trans ?_;refine(Ze (Zq (M':=M2) (eU (cQ l1 t1) rfl))).trans ?_;refine(Ze (Zr (d:=.ref (M3.length+k)) (M':=M4) (gK s2 h1))).trans ?_;have q3:e2 iI (aG bx (Zb (Za 2) (Zg))) (e1 (Gs nH) (e2 Zz (Za 0) (eC (.int 0)))) [Ya (.ref n),Ya (.int B),Ya (.ref (M3.length+k))] M4= .ok (.bl false) M4:=by
  refine Zj (M2:=M4) (cQ rfl (kO hk)) (eU (M2:=M4) (e0 hn4) (d:=.int (r.ts.length:Int)) ?_) ?_
  .simp only[Gs,H.sm]
  .simp only[iI,rJ,Yw,decide_eq_true (rfl:(r.ts.length:Int)=r.ts.length)];rfl
 refine(Ze (Zq ((m_ (M1:=M4) (Zj rfl rfl rfl)).trans q3))).trans ?_;exact cF (cQ s4 (Ay (Zy M5 _ [])))
noncomputable abbrev gM:List Nat:=[66,108,111,99,107]
noncomputable abbrev mJ:List Nat:=[104,101,97,100]
noncomputable abbrev uK:List Nat:=[108,105,115,116,115]
structure Bk where
 r:Nat
 l:Nat
 h:List Nat
 hd:List D
 cl:List (Nat×List D)
 cn:Nat
 cur:List D
noncomputable def Bk.ads(k:Bk):List Nat:=k.r::k.l::k.cn::k.cl.map (·.1)
structure o8(S:Store)(k:Bk):Prop where
 hr:S[k.r]?=Ya (.ins gM [(mJ,.tup (.str k.h::k.hd)),(uK,.ref k.l)])
 hl:S[k.l]?=Ya (.lst ((k.cl.map λp=>D.ref p.1)++[.ref k.cn]))
 hc:∀p∈k.cl,S[p.1]?=Ya (.lst p.2)
 hn:S[k.cn]?=Ya (.lst k.cur)
variable{S:Store}
theorem o8.congr{S':Store}{k:Bk}(H:o8 S k)(h:∀a∈k.ads,S'[a]?=S[a]?):o8 S' k:=⟨by rw[h _ (by simp[Bk.ads])];exact H.hr,by rw[h _ (by simp[Bk.ads])];exact H.hl,λp hp=>by rw[h _ (by simp only[Bk.ads];exact Ye _ (Ye _ (Ye _ (Yes hp))))];exact H.hc p hp,by rw[h _ (by simp[Bk.ads])];exact H.hn⟩
noncomputable abbrev gA(ks:List Bk):List Nat:=ks.flatMap Bk.ads
structure cA(S:Store)(b:Nat)(ks:List Bk):Prop where
 hb:S[b]?=Ya (.lst (ks.map λk=>D.ref k.r).reverse)
 hk:∀k∈ks,o8 S k
 nb:b∉gA ks
 nd:(gA ks).Nodup
theorem o8.lt{k:Bk}(H:o8 S k):∀a∈k.ads,a<S.length:=λa ha=>by
 have q:∀{i:Nat} {o:MO},S[i]?=Ya o->i<S.length:=λh=>(Yh.mp h).1;simp only[Bk.ads,Ym,lR]at ha;rcases ha with rfl|rfl|rfl|⟨p,hp,rfl⟩
 .exact q H.hr
 .exact q H.hl
 .exact q H.hn
 .exact q (H.hc p hp)
variable{ks:List Bk}
theorem cA.lt{b:Nat}(H:cA S b ks):∀a∈gA ks,a<S.length:=λa ha=>by obtain⟨k,hk,h⟩:=vB.mp ha;exact(H.hk k hk).lt a h
theorem cA.yR{b:Nat}(H:cA S b ks):b<S.length:=(Yh.mp H.hb).1
theorem cA.frame{S':Store}{b:Nat}(H:cA S b ks)(h:∀a∈b::gA ks,S'[a]?=S[a]?):cA S' b ks:=⟨by rw[h b Yg];exact H.hb,λk hk=>(H.hk k hk).congr λa ha=>h a (Ye _ (vB.mpr ⟨k,hk,ha⟩)),H.nb,H.nd⟩
theorem cA.app{b:Nat}(H:cA S b ks)(G:Store):cA (S++G) b ks:=
 H.frame λa ha=>Y3 (by
  rcases Ym.mp ha with e|e
  .rw[e];exact H.yR
  .exact H.lt a e)
theorem qO(k:Bk)(ks:List Bk):gA (k::ks)=k.ads++gA ks:=rfl
theorem cA.rest{b:Nat}{k:Bk}(H:cA S b (k::ks)):(∀j∈ks,o8 S j)/\b∉k.ads/\b∉gA ks/\k.ads.Nodup/\(gA ks).Nodup/\∀a∈k.ads,a∉gA ks:=by have nb:=H.nb;have nd:=H.nd;rw[qO]at nb nd;rw[gP]at nb;obtain⟨n1,n2,n3⟩:=O2.mp nd;exact⟨λj hj=>H.hk j (Ye _ hj),λz=>nb (.inl z),λz=>nb (.inr z),n1,n2,λa ha hb=>n3 a ha a hb rfl⟩
theorem cA.more{b:Nat}{k:Bk}(H:cA S b (k::ks))(d:D):cA (S.set k.cn (.lst (k.cur++[d]))) b ({k with cur:=k.cur++[d]}::ks):=by
 obtain⟨h1,h2,h3,h4,h5,h6⟩:=H.rest;have hk:=H.hk k Yg;have hcn:k.cn∈k.ads:=by simp[Bk.ads]
 have yS:k.r≠k.cn/\k.l≠k.cn/\k.cn∉k.cl.map (·.1):=by simp only[Bk.ads,xG,Ym,not_or]at h4;exact⟨h4.1.2.1,h4.2.1.1,h4.2.2.1⟩
 have o:∀a,a≠k.cn->(S.set k.cn (.lst (k.cur++[d])))[a]?=S[a]?:=λa ha=>Yz (bT ha);refine⟨?_,?_,H.nb,H.nd⟩
 .rw[o b λe=>h2 (e▸hcn)];exact H.hb
 .intro j hj;rcases Ym.mp hj with e|e
  .rw[e];refine⟨by rw[o _ yS.1];exact hk.hr,by rw[o _ yS.2.1];exact hk.hl,λp hp=>by rw[o _ λe=>yS.2.2 (e▸Yes hp)];exact hk.hc p hp,?_⟩;exact jX (Yh.mp hk.hn).1
  .exact(h1 j e).congr λa ha=>o a λz=>h6 k.cn hcn (vB.mpr ⟨j,e,z▸ha⟩)
theorem cA.els{b:Nat}{k:Bk}(H:cA S b (k::ks)):cA ((S++[MO.lst []]).set k.l (MO.lst ((k.cl.map λp=>D.ref p.1)++[D.ref k.cn]++[D.ref S.length]))) b ({k with cl:=k.cl++[(k.cn,k.cur)],cn:=S.length,cur:=[]}::ks):=by
 obtain⟨h1,h2,h3,h4,h5,h6⟩:=H.rest;have hk:=H.hk k Yg;have hl:k.l∈k.ads:=by simp[Bk.ads]
 have yS:k.r≠k.l/\k.cn≠k.l/\k.l∉k.cl.map (·.1):=by simp only[Bk.ads,xG,Ym,not_or]at h4;exact⟨h4.1.1,bT h4.2.1.1,h4.2.1.2⟩
 have o:∀a,a≠k.l->a<S.length->((S++[MO.lst []]).set k.l (MO.lst ((k.cl.map λp=>D.ref p.1)++[D.ref k.cn]++[D.ref S.length])))[a]?=S[a]?:=λa ha hlt=>by rw[Yz (bT ha),Y3 hlt]
 have hsz:∀a∈k.ads,a<S.length:=hk.lt;have hll:k.l<S.length:=hsz _ hl;have fresh:S.length∉gA (k::ks):=λz=>vH _ (H.lt _ z);have perm:(gA ({k with cl:=k.cl++[(k.cn,k.cur)],cn:=S.length,cur:=[]}::ks)).Perm (S.length::gA (k::ks)):=by rw[qO,qO];refine List.Perm.append_right (gA ks) (l₂:=S.length::k.ads) ?_;simp only[Bk.ads,pI,Yv,vD];have p1:(k.r::k.l::S.length::(k.cl.map (·.1)++[k.cn])).Perm (k.r::S.length::k.l::(k.cl.map (·.1)++[k.cn])):=List.Perm.cons _ (List.Perm.swap _ _ _);refine p1.trans ((List.Perm.swap _ _ _).trans (List.Perm.cons _ (List.Perm.cons _ (List.Perm.cons _ ?_))));exact List.perm_append_comm
 refine⟨?_,?_,?_,?_⟩
 .rw[o b (λe=>h2 (e▸hl)) H.yR];exact H.hb
 .intro j hj;rcases Ym.mp hj with e|e
  .rw[e];refine⟨by rw[o _ yS.1 (hsz _ (by simp[Bk.ads]))];exact hk.hr,?_,?_,?_⟩
   .rw[jX (by rw[Yl];exact IV _ hll)];simp
   .intro p hp;rcases gP.mp hp with q|q
    .rw[o _ (λe=>yS.2.2 (e▸Yes q)) (hsz _ (by simp only[Bk.ads];exact Ye _ (Ye _ (Ye _ (Yes q)))))];exact hk.hc p q
    .rw[Yr.mp q,o _ yS.2.1 (hsz _ (by simp[Bk.ads]))];exact hk.hn
   .show _[S.length]?=_;rw[Yz (by exactλz=>lB 2 26039357489 T1 z hll)];exact Zy _ _ _
  .exact(h1 j e).congr λa ha=>o a (λz=>h6 k.l hl (vB.mpr ⟨j,e,z▸ha⟩)) (H.lt a (vB.mpr ⟨j,Ye _ e,ha⟩))
 .intro z;rcases Ym.mp (perm.mem_iff.mp z)with e|e
  .have:=H.yR;exact lB 2 26041454609 T1 this e
  .exact H.nb e
 .exact perm.nodup_iff.mpr (xG.mpr ⟨fresh,H.nd⟩)
noncomputable abbrev G_(n:Nat)(h:List Nat)(hd:List D):Bk:=⟨n,n+2,h,hd,[],n+1,[]⟩
noncomputable abbrev nObj(n:Nat)(h:List Nat)(hd:List D):Store:=[.ins gM [(mJ,.tup (.str h::hd)),(uK,.ref (n+2))],.lst [],.lst [.ref (n+1)]]
theorem cA.push{b:Nat}(H:cA S b ks)(h:List Nat)(hd:List D):cA ((S++nObj S.length h hd).set b (.lst ((ks.map λk=>D.ref k.r).reverse++[.ref S.length]))) b (G_ S.length h hd::ks):=by
 have hb:=H.yR;have o:∀a,a≠b->a<S.length->((S++nObj S.length h hd).set b (.lst ((ks.map λk=>D.ref k.r).reverse++[.ref S.length])))[a]?=S[a]?:=λa ha hlt=>by rw[Yz (bT ha),Y3 hlt]
 have n:∀j,((S++nObj S.length h hd).set b (.lst ((ks.map λk=>D.ref k.r).reverse++[.ref S.length])))[S.length+j]?=(nObj S.length h hd)[j]?:=λj=>by rw[Yz (by exactλz=>lC 2 6666076667953 T1 z hb),yg]
 refine⟨?_,?_,?_,?_⟩
 .rw[jX (by rw[Yl];exact IV _ hb)];simp
 .intro j hj;rcases Ym.mp hj with e|e
  .rw[e];exact⟨(n 0).trans rfl,(n 2).trans rfl,(λp hp=>nomatch hp),(n 1).trans rfl⟩
  .exact(H.hk j e).congr λa ha=>o a (λz=>H.nb (vB.mpr ⟨j,e,z▸ha⟩)) (H.lt a (vB.mpr ⟨j,e,ha⟩))
 .rw[qO];intro z;rcases gP.mp z with z|z
  .simp[Bk.ads]at z;omega
  .exact H.nb z
 .rw[qO];refine O2.mpr ⟨by simp[Bk.ads],H.nd,λa ha c hc e=>?_⟩;have:=H.lt c hc;simp[Bk.ads]at ha;omega
theorem cA.pop{b:Nat}{k:Bk}(H:cA S b (k::ks)):cA (S.set b (.lst (ks.map λk=>D.ref k.r).reverse)) b ks:=by obtain⟨h1,h2,h3,h4,h5,h6⟩:=H.rest;exact⟨jX H.yR,λj hj=>(h1 j hj).congr λa ha=>Yz λ(e:b=a)=>h3 (vB.mpr ⟨j,hj,by rw[e];exact ha⟩),h3,h5⟩
theorem Zp3{i:Nat}(hv:Za i env M= .ok (.ref n) M)(h:M[n]?=Ya (.lst (xs++[d]))):bB dF Ax (Za i) (Zg) env M= .ok d (M.set n (.lst xs)):=by simp only[bB,hv,R3.bind,J2,h,Zg,if_true];rw[RD,h];simp
variable{c f:List Nat}
theorem ZqT{fs:List (List Nat×D)}(h:M[n]?=Ya (.ins c fs))(hf:fs.lookup f=Ya d):jg c f (.ref n) M= .ok d M:=by rw[ZlW,h];simp only[if_true,hf]
theorem o8.head{k:Bk}(H:o8 S k):jg gM mJ (.ref k.r) S= .ok (.tup (.str k.h::k.hd)) S:=ZqT H.hr rfl
theorem o8.lists{k:Bk}(H:o8 S k):jg gM uK (.ref k.r) S= .ok (.ref k.l) S:=ZqT H.hr rfl
theorem cA.last{b:Nat}{k:Bk}(H:cA S b (k::ks)){i:Nat}(hv:Za i env S= .ok (.ref b) S):e2 Zz (Za i) (e1 gH (eC (.int 1))) env S= .ok (.ref k.r) S:=by refine Zj hv (eU rfl (Ez 1)) (jy H.hb ?_);rw[Yv,Dz];exact getD_last _ _
noncomputable def o9(h:List Nat):Int:=(dX h nF).getD 0
noncomputable def Bk.full(k:Bk):Bool:=decide (o9 k.h=((k.cl.length+1:Nat):Int))
noncomputable def nR(w:List Nat):Bool:=(dX w nF).isSome
noncomputable def Ln(k:Bk)(n:Nat)(w:List Nat):Bool:=if nR w then decide (n<=12)else if w=aQ then decide (k.h=aM)&&!k.full else if w=aR then k.full else true
theorem fQ{a b:List Nat}:aN (.str a) (.str b) M= .ok (.bl (decide (a=b))) M:=by simp only[aN,vU]
theorem Zgq{b:Nat}{k:Bk}(H:cA S b (k::ks))(w:List Nat):yJ [.ref b,.str w] S= .ok (.bl (Ln k (ks.length+1) w)) S:=by
 have hk:=H.hk k Yg;refine(kJ (M':=S) (env:=[Ya (.ref b),Ya (.str w),Yj,Yj]) ?_).trans (ZjD rfl);unfold Ua;refine(Ze (Zr (H.last rfl))).trans ?_;have h0:∀{a:Option D},e2 Zz (e1 (jg gM mJ) (Za 2)) (eC (.int 0)) [Ya (.ref b),Ya (.str w),Ya (.ref k.r),a] S= .ok (.str k.h) S:=Zj (eU rfl hk.head) rfl (Az (iy _ 0));have Acu:e2 aN (e2 (uo nF) (e2 Zz (e1 (jg gM mJ) (Za 2)) (eC (.int 0))) (eC (.int 0))) (aG bx (Zb (e1 (jg gM uK) (Za 2)) (Zg))) [Ya (.ref b),Ya (.str w),Ya (.ref k.r),Yj] S= .ok (.bl k.full) S:=by
  refine Zj (Zj h0 rfl (d:=.int (o9 k.h)) (M3:=S) ?_) (cQ (eU rfl hk.lists) (kO hk.hl)) ?_
  .show(match dX k.h nF with|some i=>R3.ok (D.int i) S|none=>R3.ok (D.int 0) S)=_
   unfold o9;cases dX k.h nF<;>rfl
  .simp only[aN,rJ,Yl,Yw,lQ];rfl
 refine(Ze (Zr Acu)).trans ?_;have hin:e1 (uE nF) (Za 1) [Ya (.ref b),Ya (.str w),Ya (.ref k.r),Ya (.bl k.full)] S= .ok (.bl (nR w)) S:=eU rfl rfl;unfold Ln;by_cases h1:nR w=true
 .rw[if_pos h1];rw[h1]at hin;refine iK ((cP hin).trans (cF (Zj (cQ rfl (kO H.hb)) (g:=wJ) (b:=.int 12) rfl ?_)));rw[ZnL];congr 3;simp only[Iu,Yw,Yk];exact propext ⟨λz=>iN [_] [] 1 0xc1ba0c0c1ba0c881 T1 z,λz=>iN [_] [] 1 0xc1ba0c88c1ba0c01 T1 z⟩
 rw[if_neg h1];rw[YD]at h1;rw[h1]at hin;refine(Ze (Zq hin)).trans ?_;by_cases h2:w=aQ
 .rw[if_pos h2];refine iK ((cP (M':=S) (Zj rfl rfl (fQ.trans (by rw[decide_eq_true h2])))).trans (cF ?_));by_cases h3:k.h=aM
  .rw[lY (M1:=S) (Zj h0 rfl (fQ.trans (by rw[decide_eq_true h3]))),decide_eq_true h3];rfl
  .rw[oR (M1:=S) (Zj h0 rfl (fQ.trans (by rw[decide_eq_false h3]))),decide_eq_false h3];rfl
 rw[if_neg h2];refine(Ze (Zq (M':=S) (Zj rfl rfl (fQ.trans (by rw[decide_eq_false h2]))))).trans ?_;by_cases h3:w=aR
 .rw[if_pos h3];exact iK ((cP (M':=S) (Zj rfl rfl (fQ.trans (by rw[decide_eq_true h3])))).trans (cF rfl))
 .rw[if_neg h3];exact(Ze (Zq (M':=S) (Zj rfl rfl (fQ.trans (by rw[decide_eq_false h3]))))).trans (cF rfl)
theorem Uv{j:Nat}{o:MO}(hj:j<M.length)(ho:M'[j]?=Ya o)(hb:vV M.length o=false)(hne:M[j]?≠Ya o):dG M d M'= .ok d M':=by
 have ht:(M'.take M.length)[j]?=Ya o:=by rw[vA hj];exact ho
 have h1:decide (M'.take M.length=M)=false:=decide_eq_false λe=>hne (by rw[e]at ht;exact ht);have h2:(M'.take M.length).all (vV M.length)=false:=by rw[Bool.eq_false_iff];intro z;have:=gO.mp z o (zN ht);rw[hb]at this;cases this
 unfold dG;rw[h1,h2];simp
theorem Zqw(hl:M.length<=M'.length):∃S,dG M d M'= .ok d S/\M.length<=S.length/\∀a,a<M.length->S[a]?=M'[a]?:=by
 unfold dG;split
 .exact⟨_,rfl,by rw[xu];omega,λa ha=>vA ha⟩
 .exact⟨_,rfl,hl,λa _=>rfl⟩
structure o_(S S':Store)(b:Nat)(ks:List Bk):Prop where
 len:S.length<=S'.length
 old:∀a,a<S.length->a∉b::gA ks->S'[a]?=S[a]?
theorem Lp{n m:Nat}(h:n<=m):∀{l:List D},D.ref m∈l->bJ n l=false
 |d::l,hm=>by
  show(below n d&&bJ n l)=false;rcases Ym.mp hm with e|e
  .rw[←e,show below n (.ref m)=decide (m<n)from rfl,decide_eq_false (by exactλz=>lB 2 25786650641 T1 z h)];rfl
  .rw[Lp h e,DY]
theorem ZnA{e:E3}{h:List Nat}{hd:List D}(he:e env S= .ok (.tup (.str h::hd)) S):yp gM wj (Zb e (Zg)) env S= .ok (.ref S.length) (S++nObj S.length h hd):=by
 have hg:(Zb e Zg) env S= .ok [.tup (.str h::hd)] S:=Zo he rfl;have hF:wj [.ref S.length,.tup (.str h::hd)] (S++[.ins gM []])= .ok .non (S++nObj S.length h hd):=by
  have s1:FN gM mJ (Za 0) (Za 1) [Ya (.ref S.length),Ya (.tup (.str h::hd))] (S++[.ins gM []])= .nx [Ya (.ref S.length),Ya (.tup (.str h::hd))] (S++[.ins gM [(mJ,.tup (.str h::hd))]]):=by refine Ft (d:=.non) (Zj rfl rfl ?_);rw[RP,Zy];simp[vX]
  have s2:FN gM uK (Za 0) (b_ (Zb (b_ (Zg)) (Zg))) [Ya (.ref S.length),Ya (.tup (.str h::hd))] (S++[.ins gM [(mJ,.tup (.str h::hd))]])= .nx [Ya (.ref S.length),Ya (.tup (.str h::hd))] (S++nObj S.length h hd):=by
   have l1:b_ (Zb (b_ (Zg)) (Zg)) [Ya (.ref S.length),Ya (.tup (.str h::hd))] (S++[.ins gM [(mJ,.tup (.str h::hd))]])= .ok (.ref (S.length+2)) (S++[.ins gM [(mJ,.tup (.str h::hd))],.lst [],.lst [.ref (S.length+1)]]):=by
    refine(jh (M':=S++[.ins gM [(mJ,.tup (.str h::hd))],.lst []]) (ds:=[.ref (S.length+1)]) (Zo ((jh rfl rfl).trans ?_) rfl) rfl).trans ?_
    .simp
    .simp
   refine Ft (d:=.non) (Zj l1 rfl ?_);rw[RP,Zy];have:=J6 S [MO.ins gM [(mJ,.tup (.str h::hd))],.lst [],.lst [.ref (S.length+1)]] 0 (.ins gM [(mJ,.tup (.str h::hd)),(uK,.ref (S.length+2))]);rw[Pu]at this;simp[vX,this]
  refine(Fw (M':=S++nObj S.length h hd) (env:=[Ya (.ref S.length),Ya (.tup (.str h::hd))]) ((Ze s1).trans s2)).trans ?_;refine Uv (j:=S.length) (o:=.ins gM [(mJ,.tup (.str h::hd)),(uK,.ref (S.length+2))]) (by simp) (Zy _ _ _) ?_ ?_
  .show bJ _ [.tup (.str h::hd),.ref (S.length+2)]=false;exact Lp (m:=S.length+2) (by simp) (by simp)
  .rw[Zy];simp
 simp only[yp,hg,R3.bind,hF]
section
variable {S:Store} {b:Nat} {k:Bk} {ks:List Bk} {w:List Nat} {d:List D}
theorem uM{v:Option D}{x:Option D}:e2 Zz (Za 1) (eC (.int 0)) [Ya (.ref b),Ya (.tup (.str w::d)),v,x] S= .ok (.str w) S:=Zj rfl rfl (Az (iy _ 0))
theorem o_.AcP{o:MO}(h:n∈b::gA ks):o_ S (S.set n o) b ks:=⟨by rw[DG];exact Yo _,λa _ ha=>Yz λ(e:n=a)=>ha (e▸h)⟩
theorem o_.setG{o:MO}{G:Store}(h:n∈b::gA ks):o_ S ((S++G).set n o) b ks:=⟨by rw[DG,Yl];exact lU _ _,λa hl ha=>by rw[Yz λ(e:n=a)=>ha (e▸h),Y3 hl]⟩
theorem Zxe:k.cn∈b::gA (k::ks):=Ye _ (n_ _ (by simp[Bk.ads]))
theorem Zyg:k.l∈b::gA (k::ks):=Ye _ (n_ _ (by simp[Bk.ads]))
theorem Zk3(H:cA S b (k::ks))(h1:nR w=false)(h2:w≠aQ)(h3:w≠aR)(hz:k.cur.length<1000):
  ∃S',uG [.ref b,.tup (.str w::d)] S= .ok .non S'/\cA S' b ({k with cur:=k.cur++[.tup (.str w::d)]}::ks)/\o_ S S' b (k::ks):=by
 have hk:=H.hk k Yg;refine⟨_,(Fw (M':=S.set k.cn (.lst (k.cur++[.tup (.str w::d)]))) (env:=[Ya (.ref b),Ya (.tup (.str w::d)),Yj,Yj]) (env':=[Ya (.ref b),Ya (.tup (.str w::d)),Ya (.ref k.r),Yj]) ?_).trans (Zqg (DG ..)),H.more _,o_.AcP Zxe⟩;unfold yK;refine(Ze (Zr (H.last rfl))).trans ?_;refine(pO (M':=S) (eU uM (by show R3.ok (D.bl (nR w)) S=_;rw[h1]))).trans ?_;refine(pO (M':=S) (Zj uM rfl (fQ.trans (by rw[decide_eq_false h2])))).trans ?_;refine(pO (M':=S) (Zj uM rfl (fQ.trans (by rw[decide_eq_false h3])))).trans ?_;exact G7 (M':=S) (Zj (eU rfl hk.lists) (eU rfl (Ez 1)) (jy hk.hl (getD_last _ _))) hk.hn rfl hk.hn (j6 hz (by decide))
theorem ZoW(H:cA S b (k::ks))(h1:nR w=true)(hz:ks.length<100):
  ∃S',uG [.ref b,.tup (.str w::d)] S= .ok .non S'/\cA S' b (G_ S.length w d::k::ks)/\o_ S S' b (k::ks):=by
 have hlt:=H.yR;refine⟨_,(Fw (M':=(S++nObj S.length w d).set b (.lst (((k::ks).map λk=>D.ref k.r).reverse++[.ref S.length]))) (env:=[Ya (.ref b),Ya (.tup (.str w::d)),Yj,Yj]) (env':=[Ya (.ref b),Ya (.tup (.str w::d)),Ya (.ref k.r),Yj]) ?_).trans (Uv (j:=b) hlt (jX (by rw[Yl];exact IV _ hlt)) (Lp (m:=S.length) (Yo _) (Y4 _ Yg)) ?_),H.push w d,o_.setG Yg⟩
 .unfold yK;refine(Ze (Zr (H.last rfl))).trans ?_;refine(cP (M':=S) (eU uM (by show R3.ok (D.bl (nR w)) S=_;rw[h1]))).trans ?_;exact G7 (M':=S) rfl H.hb (ZnA (h:=w) (hd:=d) rfl) (Zv H.hb _) (by simp only[Iu,Yw,Yk];exact j6 (show ks.length+1<1000 by exact lA 1 0x3e83ba0c1642b011 T1 hz) (by decide))
 .rw[H.hb];intro e;have:=congrArg (λo:Option MO=>match o with|some (.lst x)=>x.length|_=>0) e;simp at this
theorem ZoC(H:cA S b (k::ks))(hz:k.cl.length<100):
  ∃S',uG [.ref b,.tup (.str aQ::d)] S= .ok .non S'/\cA S' b ({k with cl:=k.cl++[(k.cn,k.cur)],cn:=S.length,cur:=[]}::ks)/\o_ S S' b (k::ks):=by
 have hk:=H.hk k Yg;have hlt:k.l<S.length:=hk.lt _ (by simp[Bk.ads]);refine⟨_,(Fw (M':=(S++[MO.lst []]).set k.l (MO.lst ((k.cl.map λp=>D.ref p.1)++[D.ref k.cn]++[D.ref S.length]))) (env:=[Ya (.ref b),Ya (.tup (.str aQ::d)),Yj,Yj]) (env':=[Ya (.ref b),Ya (.tup (.str aQ::d)),Ya (.ref k.r),Yj]) ?_).trans (Uv (j:=k.l) hlt (jX (by rw[Yl];exact IV _ hlt)) (Lp (m:=S.length) (Yo _) (Y4 _ Yg)) ?_),H.els,o_.setG Zyg⟩
 .unfold yK;refine(Ze (Zr (H.last rfl))).trans ?_;refine(pO (M':=S) (eU uM rfl)).trans ?_;refine(cP (M':=S) (Zj uM rfl (fQ.trans (by rw[decide_eq_true rfl])))).trans ?_;exact G7 (M':=S) (eU rfl hk.lists) hk.hl (jh rfl rfl) (Zv hk.hl _) (by simp only[Yl,Yw,lQ];exact j6 (show k.cl.length+1<1000 by exact lA 1 0x3e83ba0c1642b011 T1 hz) (by decide))
 .rw[hk.hl];intro e;have:=congrArg (λo:Option MO=>match o with|some (.lst x)=>x.length|_=>0) e;simp at this
noncomputable def Bk.whole(k:Bk):D:=.tup (.str k.h::k.hd++(k.cl++[(k.cn,k.cur)]).map λp=>D.tup p.2)
theorem Zpn{k2:Bk}(H:cA S b (k::k2::ks))(hz:k.cl.length<100)(hd:k.hd.length<100)(hc:k2.cur.length<1000):
  ∃S',uG [.ref b,.tup (.str aR::d)] S= .ok .non S'/\cA S' b ({k2 with cur:=k2.cur++[k.whole]}::ks)/\o_ S S' b (k::k2::ks):=by
 have hk:=H.hk k Yg
 let S1:=S.set b (.lst ((k2::ks).map λk=>D.ref k.r).reverse)
 have H1:cA S1 b (k2::ks):=H.pop;have hk1:o8 S1 k:=hk.congr λa ha=>Yz λ(e:b=a)=>H.rest.2.1 (by rw[e];exact ha)
 let S2:=S1++[MO.lst ((k.cl++[(k.cn,k.cur)]).map λp=>D.tup p.2)]
 have H2:cA S2 b (k2::ks):=H1.app _;have hk2:=H2.hk k2 Yg
 let S3:=S2.set k2.cn (.lst (k2.cur++[k.whole]))
 have H3:cA S3 b ({k2 with cur:=k2.cur++[k.whole]}::ks):=H2.more _;have hl3:S.length<=S3.length:=by simp[S3,S2,S1]
 have lc:jx (eQ (e1 (jg gM uK) (Za 2))) 1 (dN 4) [] (aG gY (Zb (Za 4) (Zg))) [Ya (.ref b),Ya (.tup (.str aR::d)),Ya (.ref k.r),Yj] S1= .ok (.ref S1.length) S2:=by
  refine ZpY (enc:=λp:Nat×List D=>D.ref p.1) (h:=λp=>D.tup p.2) (as:=k.cl++[(k.cn,k.cur)]) (M1:=S1) (lock:=Ya k.l) (λe=>∃a1 a2 a3 a4 a5,e=[a1,a2,a3,a4,a5]) ?_ ?_ ⟨_,_,_,_,_,rfl⟩ ?_ (by simp;exact lA 1 0x1869f5b00642b011 T1 hz)
  .show(e1 (jg gM uK) (Za 2) _ _).bind _=_;rw[eU (d:=.ref k.l) rfl hk1.lists];simp only[R3.bind,hk1.hl,pI];rfl
  .intro n hn;cases hn;rw[pI];exact hk1.hl
  .intro p hp env ⟨a1,a2,a3,a4,a5,e⟩;subst e;refine⟨_,rfl,⟨_,_,_,_,_,rfl⟩,λx=>cQ rfl (Ay (Zv ?_ _))⟩;rcases gP.mp hp with q|q
   .exact hk1.hc p q
   .rw[Yr.mp q];exact hk1.hn
 have main:yK [Ya (.ref b),Ya (.tup (.str aR::d)),Yj,Yj] S= .nx [Ya (.ref b),Ya (.tup (.str aR::d)),Ya (.ref k.r),Ya k.whole] S3:=by
  unfold yK;refine(Ze (Zr (H.last rfl))).trans ?_;refine(pO (M':=S) (eU uM rfl)).trans ?_;refine(pO (M':=S) (Zj uM rfl (fQ.trans (by rw[decide_eq_false (by decide)])))).trans ?_;refine(cP (M':=S) (Zj uM rfl (fQ.trans (by rw[decide_eq_true rfl])))).trans ?_;have hb:S[b]?=Ya (.lst (((k2::ks).map λk=>D.ref k.r).reverse++[D.ref k.r])):=by rw[H.hb,Yv,Dz]
  refine(Ze (Ft (Zp3 rfl hb))).trans ?_;refine(Ze (Zr (d:=k.whole) (M':=S2) (Zj (eU rfl hk1.head) (cQ lc (Ay (Zy S1 _ []))) ?_))).trans ?_
  .rw[Zqd];refine if_pos ?_;simp only[Yk,Yw,Yl,DK];exact Yp (show _<=1000 by exact lB 2 0x3e83baec1ca0cc0642b111642b011 T1 hd hz) (by decide)
  .exact G7 (M':=S2) (Zj (eU (H2.last rfl) hk2.lists) (eU rfl (Ez 1)) (jy hk2.hl (getD_last _ _))) hk2.hn rfl hk2.hn (j6 hc (by decide))
 obtain⟨S',e,l1,o1⟩:=Zqw (M:=S) (M':=S3) (d:=.non) hl3;have old:∀a,a<S.length->a∉b::gA (k::k2::ks)->S3[a]?=S[a]?:=λa hlt ha=>by have n1:k2.cn≠a:=λz=>ha (Ye _ (by rw[qO,qO,←z];exact Y4 _ (n_ _ (by simp[Bk.ads]))));have n2:b≠a:=λz=>ha (by rw[z];exact Yg);show(S2.set k2.cn _)[a]?=_;rw[Yz n1];show(S1++_)[a]?=_;rw[Y3 (by simp[S1];exact hlt)];exact Yz n2
 refine⟨S',(Fw main).trans e,H3.frame λa ha=>o1 a ?_,l1,λa hl ha=>(o1 a hl).trans (old a hl ha)⟩;rcases Ym.mp ha with z|z
 .rw[z];exact H.yR
 .refine H.lt a ?_;rw[qO];exact Y4 _ z
end
theorem yU{f:E3}(h:f env M= .ok d M'):oV f env M= .ok d M':=by simp only[oV,h]
theorem ZrS{f:cW}{d:List D}(h:f env M= .ok d M'):pQ f env M= .ok d M':=by simp only[pQ,h]
theorem sX{f:S3}{e:Zx}(h:f env M= .nx e M'):fO f env M= .nx e M':=by rw[fO,h]
theorem Zvg{f:S3}(h:f env M= .rt d M'):fO f env M= .rt d M':=by rw[fO,h]
theorem Uw{f g:S3}{x:X3}(h:f env M= .exc x M'):Zw f g env M= .exc x M':=by rw[Zw,h]
theorem Ux{ps:Nat}{body:S3}{x:X3}(h:body env M= .exc x M')(hl:autoParam (ds.length=ps) qA)(he:autoParam (ds.map Ya++Y2 (n-ps) Yj=env) qA):bL ps n body ds M= .exc x M':=by subst he;rw[bL,if_pos hl,h]
theorem Zqp{f:E3}{i:Nat}{x:X3}(h:f env M= .exc x M'):aJ i f env M= .exc x M':=by rw[aJ,h]
theorem Zs7{cs:List (List Nat)}{j:Nat}{b g:S3}{e:Zx}(h:b env M= .nx e M'):yq cs j b g env M= .nx e M':=by rw[yq,h]
theorem ZpU{cs:List (List Nat)}{j:Nat}{b g:S3}{env e1 e2:Zx}{M M' M2:Store}{x:X3}(h:b env M= .exc x M')(hc:cs.contains x.cls=true)(hg:g (env.set j (Ya x.arg)) M'= .nx e1 M2)(he:e1.set j Yj=e2):yq cs j b g env M= .nx e2 M2:=by rw[yq,h];simp only[hc,if_true,hg,he]
structure Pf where
 h:List Nat
 hd:List D
 cl:List (List D)
 cur:List D
noncomputable def Bk.pf(k:Bk):Pf:=⟨k.h,k.hd,k.cl.map (·.2),k.cur⟩
noncomputable def Pf.whole(k:Pf):D:=.tup (.str k.h::k.hd++(k.cl++[k.cur]).map D.tup)
theorem ZqV(k:Bk):k.whole=k.pf.whole:=by simp[Bk.whole,Pf.whole,Bk.pf]
noncomputable def Rw.tl(r:Rw):List D:=r.xs.map D.str++r.ts.map λt=>D.tup t.flat
theorem Cw(r:Rw):r.deed= .str r.h::r.tl:=rfl
noncomputable def stepK(r:Rw)(k:Pf)(fs:List Pf):Option (List Pf):=if nR r.h=true then(if fs.length+1<=12 then Ya (⟨r.h,r.tl,[],[]⟩::k::fs)else Yj)
  else if r.h=aQ then(if k.h=aM/\k.cl=[]then Ya (⟨k.h,k.hd,[k.cur],[]⟩::fs)else Yj)
  else if r.h=aR then(match fs with
   |[]=>Yj|k2::fs=>if o9 k.h=((k.cl.length+1:Nat):Int)/\k.hd.length<100/\k.cl.length<100/\k2.cur.length<1000 then Ya (⟨k2.h,k2.hd,k2.cl,k2.cur++[k.whole]⟩::fs)else Yj)
  else if k.cur.length<1000 then Ya (⟨k.h,k.hd,k.cl,k.cur++[.tup r.deed]⟩::fs)else Yj
noncomputable def fU(r:Rw):List Pf->Option (List Pf)
 |[]=>Yj|k::fs=>stepK r k fs
structure wF(M S:Store)(b:Nat)(ks:List Bk):Prop where
 bk:cA S b ks
 len:M.length<=S.length
 pre:∀a,a<M.length->S[a]?=M[a]?
 hi:∀a∈b::gA ks,M.length<=a
theorem wF.next{S':Store}{b:Nat}{ks':List Bk}(I:wF M S b ks)(h:cA S' b ks')(st:o_ S S' b ks)(ha:∀a∈gA ks',a∈gA ks\/S.length<=a):wF M S' b ks':=
 ⟨h,Yp I.len st.len,λa hl=>(st.old a (Y6 hl I.len) λz=>by have:=I.hi a z;exact lB 2 25787699201 T1 this hl).trans (I.pre a hl),λa z=>by
  rcases Ym.mp z with e|e
  .exact I.hi a (by rw[e];exact Yg)
  .rcases ha a e with q|q
   .exact I.hi a (Ye _ q)
   .exact Yp I.len q⟩
theorem ZmL{b:Nat}(I:wF M S b ks){fs:List Pf}(hp:fU r (ks.map Bk.pf)=Ya fs):
  yJ [.ref b,.str r.h] S= .ok (.bl true) S/\∃S' ks',uG [.ref b,.tup r.deed] S= .ok .non S'/\wF M S' b ks'/\ks'.map Bk.pf=fs:=by
 cases ks with
 |nil=>cases hp|cons k ks=>
  rw[Zgq I.bk r.h];rw[Yv]at hp;have hp:stepK r k.pf (ks.map Bk.pf)=Ya fs:=hp;unfold stepK at hp;unfold Ln;by_cases h1:nR r.h=true
  .rw[if_pos h1]at hp ⊢;by_cases hl:(ks.map Bk.pf).length+1<=12
   .rw[if_pos hl]at hp;rw[Yw]at hl;obtain⟨S',e,q1,q2⟩:=ZoW (d:=r.tl) I.bk h1 (lA 1 0x642b01c1ba0c01 T1 hl);refine⟨by rw[decide_eq_true hl],S',_,e,I.next q1 q2 λa ha=>?_,Y9 hp⟩;rw[qO]at ha;rcases gP.mp ha with z|z
    .right;simp[Bk.ads]at z;omega
    .exact .inl z
   .rw[if_neg hl]at hp;cases hp
  rw[if_neg h1]at hp ⊢;rw[YD]at h1;by_cases h2:r.h=aQ
  .rw [if_pos h2]at hp ⊢;by_cases hc:k.pf.h=aM/\k.pf.cl=[]
   .rw[if_pos hc]at hp;have hcl:k.cl=[]:=zO.mp hc.2;have hh:k.h=aM:=hc.1;obtain⟨S',e,q1,q2⟩:=ZoC (d:=r.tl) I.bk (by rw[hcl];decide);have hf:k.full=false:=by unfold Bk.full;rw[hh,hcl];rfl
    refine⟨by rw[decide_eq_true hh,hf];rfl,S',_,by rw[Cw,h2];exact e,I.next q1 q2 λa ha=>?_,?_⟩
    .rw[qO]at ha ⊢;rcases gP.mp ha with z|z
     .simp only[Bk.ads,hcl,mQ,Yv,vD,Ym,ig,or_false]at z;rcases z with z|z|z|z
      .exact .inl (n_ _ (by simp[Bk.ads,z]))
      .exact .inl (n_ _ (by simp[Bk.ads,z]))
      .exact .inr (tW z.symm)
      .exact .inl (n_ _ (by simp[Bk.ads,z]))
     .exact .inl (Y4 _ z)
    .rw[←Y9 hp,Yv];simp[Bk.pf,hcl]
   .rw[if_neg hc]at hp;cases hp
  rw[if_neg h2]at hp ⊢;by_cases h3:r.h=aR
  .rw [if_pos h3]at hp ⊢;cases ks with
   |nil=>cases hp|cons k2 ks=>
    simp only[Yv]at hp;by_cases hc:o9 k.pf.h=((k.pf.cl.length+1:Nat):Int)/\k.pf.hd.length<100/\k.pf.cl.length<100/\k2.pf.cur.length<1000
    .rw[if_pos hc]at hp;have hcl:k.pf.cl.length=k.cl.length:=Yw _;obtain⟨c1,c2,c3,c4⟩:=hc;rw[hcl]at c1 c3;obtain⟨S',e,q1,q2⟩:=Zpn (d:=r.tl) I.bk c3 c2 c4;refine⟨by rw[show k.full=true from decide_eq_true c1],S',_,by rw[Cw,h3];exact e,I.next q1 q2 λa ha=>?_,?_⟩
     .left;rw[qO];exact Y4 _ ha
     .rw[←Y9 hp,Yv,ZqV];rfl
    .rw[if_neg hc]at hp;cases hp
  rw[if_neg h3]at hp ⊢;by_cases hc:k.pf.cur.length<1000
  .rw[if_pos hc]at hp;obtain⟨S',e,q1,q2⟩:=Zk3 (d:=r.tl) I.bk h1 h2 h3 hc;exact⟨rfl,S',_,e,I.next q1 q2 λa ha=>.inl ha,Y9 hp⟩
  .rw[if_neg hc]at hp;cases hp
noncomputable def wG:List Rw->List Pf->Option (List Pf)
 |[],fs=>Ya fs|r::rs,fs=>(fU r fs).bind (wG rs)
noncomputable abbrev uN:List Nat:=[66,97,100,82,111,119]
noncomputable abbrev Hf:List Nat:=[114,111,119]
theorem Ziw{M M1:Store}(h:g env M= .ok [.int i] M1)(hi:i.natAbs.log2<1000):sS c f g env M= .exc ⟨c,.ref M1.length⟩ (M1++[.ins (0::c) [(f,.int i)]]):=by simp only[sS,h,if_pos hi]
theorem Uy{i:I3}{g:G3}{u:S3}{it:gU}(h:i env M= .ok it M'):FP i g u env M=cX it g u it.items env M':=by rw[FP,h]
noncomputable abbrev Cy:S3:=Zw (fO (aJ 5 (bf Gz (Zb (Za 4) (Zg))))) (Zw (aK (oV (dz (e2 Am (Za 5) (eC .non)) (e1 lX (bf yJ (Zb (Za 2) (Zb (e2 Zz (Za 5) (eC (.int 0))) (Zg))))))) (sS uN Hf (Zb (Za 3) (Zg))) (fO (aY))) (fO (bV (bf uG (Zb (Za 2) (Zb (Za 5) (Zg)))))))
noncomputable abbrev eY:List Nat:=[112,114,111,103,114,97,109]
noncomputable abbrev ph(q:Int×Nat×Rw):D:=.tup [.int q.1,.ref q.2.1]
structure Lt(n:Nat)(fs:List Pf):Prop where
 ea:∀k∈fs,k.cur.length<=n/\k.hd.length<100/\k.cl.length<=1
 lo:∃gs k,fs=gs++[k]/\k.h=eY/\k.cl=[]
theorem Lt.one:Lt 0 [⟨eY,[],[],[]⟩]:=⟨λk hk=>by rw[Yr.mp hk];exact⟨Yo _,(by decide:(0:Nat)<100),d8 _⟩,[],_,rfl,rfl,rfl⟩
theorem Lt.ne{fs:List Pf}(h:Lt n fs):fs≠[]:=by obtain⟨gs,k,e,_⟩:=h.lo;rw[e];simp
theorem Lt.end_{k:Pf}(h:Lt n [k]):k.h=eY/\k.cl=[]:=by
 obtain⟨gs,j,e,q⟩:=h.lo;cases gs with
 |nil=>rw[show k=j from(iY e).1];exact q|cons a gs=>exact absurd (congrArg tU e) (by simp)
theorem Lt.tail{k k2:Pf}{fs:List Pf}(h:Lt n (k::k2::fs)):Lt n (k2::fs):=by
 refine⟨λj hj=>h.ea j (Ye _ hj),?_⟩;obtain⟨gs,j,e,q⟩:=h.lo;cases gs with
 |nil=>exact absurd (congrArg tU e) (by simp)|cons a gs=>exact⟨gs,j,(iY e).2,q⟩
theorem Lt.up{fs:List Pf}(h:Lt n fs)(l:n<=m):Lt m fs:=⟨λk hk=>⟨Yp (h.ea k hk).1 l,(h.ea k hk).2⟩,h.lo⟩
theorem Lt.swap{k k':Pf}{fs:List Pf}(h:Lt n (k::fs))(l:n<=m)(e:k'.h=k.h)(ec:k.h=eY->k.cl=[]->k'.cl=[])(q:k'.cur.length<=m/\k'.hd.length<100/\k'.cl.length<=1):Lt m (k'::fs):=by
 refine⟨λj hj=>?_,?_⟩
 .rcases Ym.mp hj with rfl|hj
  .exact q
  .exact⟨Yp (h.ea j (Ye _ hj)).1 l,(h.ea j (Ye _ hj)).2⟩
 .obtain⟨gs,j,e2,q2⟩:=h.lo;cases gs with
  |nil=>obtain⟨e3,e4⟩:=iY e2;exact⟨[],k',by rw[e4];rfl,by rw[e,e3];exact q2.1,ec (by rw[e3];exact q2.1) (by rw[e3];exact q2.2)⟩|cons a gs=>exact⟨k'::gs,j,by rw[(iY e2).2];rfl,q2⟩
theorem Lt.step{fs gs:List Pf}(h:Lt n fs)(hr:r.tl.length<100)(hs:fU r fs=Ya gs):Lt (n+1) gs:=by
 cases fs with
 |nil=>cases hs|cons k fs=>
  have hs:stepK r k fs=Ya gs:=hs;have hk:=h.ea k Yg;unfold stepK at hs;split at hs
  .split at hs
   .cases hs
    obtain⟨g2,j,e2,q2⟩:=h.lo;refine⟨λj hj=>?_,_::g2,j,by rw[e2];rfl,q2⟩;rcases Ym.mp hj with rfl|hj
    .exact⟨d8 _,hr,d8 _⟩
    .exact(h.up (vI n)).ea j hj
   .cases hs
  .split at hs
   .split at hs
    .rename_i hc;cases hs;exact h.swap (vI n) rfl (λz=>absurd (hc.1.symm.trans z) (by decide)) ⟨d8 _,hk.2.1,Yo _⟩
    .cases hs
   .split at hs
    .split at hs
     .cases hs
     .split at hs
      .cases hs
       have h2:=h.tail;have hj:=h2.ea _ Yg;refine h2.swap (vI n) rfl (λ_ z=>z) ⟨?_,hj.2⟩;rw[Yl];exact Iz hj.1 1
      .cases hs
    .split at hs
     .cases hs
      refine h.swap (vI n) rfl (λ_ z=>z) ⟨?_,hk.2⟩;rw[Yl];exact Iz hk.1 1
     .cases hs
theorem Zme{b n:Nat}(H:cA S b ks)(l:Lt n (ks.map Bk.pf))(hn:n<1000)(hs:fU r (ks.map Bk.pf)=Yj):yJ [.ref b,.str r.h] S= .ok (.bl false) S:=by
 cases ks with
 |nil=>exact absurd rfl l.ne|cons k ks=>
  rw[Zgq H r.h];rw[Yv]at hs l;have hk:=l.ea k.pf Yg;have hs:stepK r k.pf (ks.map Bk.pf)=Yj:=hs;have lc:k.pf.cl.length=k.cl.length:=Yw _;unfold stepK at hs;unfold Ln;by_cases h1:nR r.h=true
  .rw[if_pos h1]at hs ⊢;rw[Yw]at hs;by_cases hl:ks.length+1<=12
   .rw[if_pos hl]at hs;cases hs
   .rw[decide_eq_false hl]
  rw[if_neg h1]at hs ⊢;by_cases h2:r.h=aQ
  .rw[if_pos h2]at hs ⊢;by_cases hc:k.pf.h=aM/\k.pf.cl=[]
   .rw[if_pos hc]at hs;cases hs
   .by_cases hw:k.h=aM
    .have hne:k.cl≠[]:=λz=>hc ⟨hw,by show k.cl.map _=[];rw[z];rfl⟩;have l1:k.cl.length=1:=gn (by rw[←lc];exact hk.2.2) (OJ.mpr hne);have:k.full=true:=by unfold Bk.full;rw[l1,hw];decide +kernel
     rw[this,decide_eq_true hw];rfl
    .rw[decide_eq_false hw];rfl
  rw[if_neg h2]at hs ⊢;by_cases h3:r.h=aR
  .rw[if_pos h3]at hs ⊢;cases ks with
   | nil=>
    have e:k.h=eY:=l.end_.1;have:k.full=false:=by unfold Bk.full;rw[e,show o9 eY=0 by decide +kernel];exact decide_eq_false (by omega)
    rw[this]
   | cons k2 ks=>
    rw[Yv]at hs l;have h2k:=l.ea k2.pf (Ye _ Yg);dsimp only at hs;by_cases hc:o9 k.h=((k.cl.length+1:Nat):Int)
    .rw[if_pos ⟨by rw[lc];exact hc,hk.2.1,j5 hk.2.2 (by decide),j5 h2k.1 hn⟩]at hs;cases hs
    .have:k.full=false:=decide_eq_false hc;rw[this]
  rw[if_neg h3]at hs;rw[if_pos (j5 hk.1 hn)]at hs;cases hs
noncomputable def jj:List (Int×Rw)->List Pf->Sum Int (List Pf)
 |[],fs=>.inr fs|q::L,fs=>match fU q.2 fs with
  |some gs=>jj L gs|none=>.inl q.1
theorem Zl1{M:Store}{b:Nat}{it:gU}(hit:∀S,(∀a,a<M.length->S[a]?=M[a]?)->locked it S=true){v0 v1:Option D}:
  ∀(L:List (Int×Nat×Rw)) (S:Store) (ks:List Bk) (n:Nat) (x3 x4 x5:Option D),wF M S b ks->Lt n (ks.map Bk.pf)->n+L.length<1000->(∀q∈L,M[q.2.1]?=Ya (.lst (q.2.2.words.map D.str))/\yQ q.2.2/\q.2.2.tl.length<100/\q.1.natAbs.log2<1000) ->
  match jj (L.map λq=>(q.1,q.2.2)) (ks.map Bk.pf)with
  | .inr fs=>∃S' ks' y3 y4 y5,cX it (jc [3,4]) Cy (L.map ph) [v0,v1,Ya (.ref b),x3,x4,x5] S= .nx [v0,v1,Ya (.ref b),y3,y4,y5] S'/\wF M S' b ks'/\ks'.map Bk.pf=fs|.inl z=>∃S':Store,cX it (jc [3,4]) Cy (L.map ph) [v0,v1,Ya (.ref b),x3,x4,x5] S= .exc ⟨uN,.ref S'.length⟩ (S'++[.ins (0::uN) [(Hf,.int z)]])/\M.length<=S'.length/\∀a,a<M.length->S'[a]?=M[a]?
 |[],S,ks,n,x3,x4,x5,I,_,_,_=>⟨S,ks,x3,x4,x5,by show cX _ _ _ [] _ _=_;rw[ug,if_pos (hit S I.pre)],I,rfl⟩|q::L,S,ks,n,x3,x4,x5,I,l,hz,hL=>by
  obtain⟨hw,ok,ht,hq⟩:=hL q Yg;rw[Yv];have hwS:S[q.2.1]?=Ya (.lst (q.2.2.words.map D.str)):=(I.pre _ (Yh.mp hw).1).trans hw;have hn:n<1000:=by rw[Yk]at hz;omega
  have step:∀o:O3,Cy [v0,v1,Ya (.ref b),Ya (.int q.1),Ya (.ref q.2.1),x5] S=o->cX it (jc [3,4]) Cy ((q::L).map ph) [v0,v1,Ya (.ref b),x3,x4,x5] S=(match o with
    | .nx e M'=>cX it (jc [3,4]) Cy (L.map ph) e M'|.ct e M'=>cX it (jc [3,4]) Cy (L.map ph) e M'|.bk e M'=>.nx e M'|o=>o):=λo ho=>by
   rw[Yv,uh,if_pos (hit S I.pre)];simp only[jc,J4,J3,zP,zQ,ho]
   try(cases o<;>rfl)
  unfold jj;cases hs:fU q.2.2 (ks.map Bk.pf)with
  |none=>have c1:=Zme I.bk l hn hs;refine⟨S,?_,I.len,I.pre⟩;rw[step (.exc ⟨uN,.ref S.length⟩ (S++[.ins (0::uN) [(Hf,.int q.1)]])) ?_];refine(Ze (sX (Zr (gK rfl (ZgN ok hwS))))).trans ?_;exact Uw ((cP (M':=S) (yU ((m_ (M1:=S) (Zj rfl rfl rfl)).trans (eU (oO rfl (Zj rfl rfl (Az (iy _ 0))) c1) rfl)))).trans (Ziw rfl hq))|some f1=>
   obtain⟨c1,S1,k1,p1,I1,e1⟩:=ZmL I hs;have l1:Lt (n+1) (k1.map Bk.pf):=by rw[e1];exact l.step ht hs
   have IH:=Zl1 (v0:=v0) (v1:=v1) hit L S1 k1 (n+1) (Ya (.int q.1)) (Ya (.ref q.2.1)) (Ya (.tup q.2.2.deed)) I1 l1 (by rw[Yk]at hz;omega) (λp hp=>hL p (Ye _ hp));rw[e1]at IH;rw[step (.nx [v0,v1,Ya (.ref b),Ya (.int q.1),Ya (.ref q.2.1),Ya (.tup q.2.2.deed)] S1) ?_]
   .exact IH
   refine(Ze (sX (Zr (gK rfl (ZgN ok hwS))))).trans ?_;refine(Ze ((pO (M':=S) (yU ((m_ (M1:=S) (Zj rfl rfl rfl)).trans (eU (oO rfl (Zj rfl rfl (Az (iy _ 0))) c1) rfl)))).trans (sX rfl))).trans ?_;exact sX (Ft (oO rfl rfl p1))
theorem Uz:∀{L:List (Int×Rw)} {n:Nat} {fs gs:List Pf},Lt n fs->(∀q∈L,q.2.tl.length<100)->jj L fs= .inr gs->Lt (n+L.length) gs
 |[],n,fs,gs,l,_,e=>by cases e;exact l|q::L,n,fs,gs,l,h,e=>by
  unfold jj at e;cases hs:fU q.2 fs with
  |none=>rw[hs]at e;cases e|some f1=>rw[hs]at e;have:=Uz (l.step (h q Yg) hs) (λp hp=>h p (Ye _ hp)) e;rw[Yk,show n+(L.length+1)=n+1+L.length by omega];exact this
theorem ZqQ(M:Store):wF M (M++nObj M.length eY []++[.lst [.ref M.length]]) (M.length+3) [G_ M.length eY []]:=by
 have n:∀j,(M++nObj M.length eY []++[.lst [.ref M.length]])[M.length+j]?=(nObj M.length eY []++[.lst [.ref M.length]])[j]?:=λj=>by rw[Yy,yg]
 refine⟨⟨(n 3).trans rfl,λk hk=>?_,?_,?_⟩,by simp,λa ha=>by rw[Yy,Y3 ha],λa ha=>?_⟩
 .rw[Yr.mp hk];exact⟨(n 0).trans rfl,(n 2).trans rfl,(λp hp=>nomatch hp),(n 1).trans rfl⟩
 .simp[gA,Bk.ads]
 .simp[gA,Bk.ads]
 .simp[gA,Bk.ads]at ha;omega
def qP(M:Store)(z:Int)(o:R3 D):Prop:=∃S':Store,o= .exc ⟨uN,.ref S'.length⟩ (S'++[.ins (0::uN) [(Hf,.int z)]])/\M.length<=S'.length/\∀a,a<M.length->S'[a]?=M[a]?
def UG(M:Store)(z:Int)(r:Sum Int (List Pf))(o:R3 D):Prop:=match r with
 | .inl i=>qP M i o|.inr [k]=>bJ M.length k.cur=true->o= .ok (.tup k.cur) M|.inr _=>qP M z o
theorem Zkk{L:List (Int×Nat×Rw)}{z:Int}(hn:M[n]?=Ya (.lst (L.map ph)))(hz:z.natAbs.log2<1000)(hl:L.length<1000)(hL:∀q∈L,M[q.2.1]?=Ya (.lst (q.2.2.words.map D.str))/\yQ q.2.2/\q.2.2.tl.length<100/\q.1.natAbs.log2<1000):
  UG M z (jj (L.map λq=>(q.1,q.2.2)) [⟨eY,[],[],[]⟩]) (wk [.ref n,.int z] M):=by
 let S0:=M++nObj M.length eY []++[MO.lst [.ref M.length]]
 have hnl:=(Yh.mp hn).1;have lt:=λgs=>Uz (L:=L.map λq=>(q.1,q.2.2)) (gs:=gs) Lt.one (λp hp=>by obtain⟨q,hq,rfl⟩:=lR.mp hp;exact(hL q hq).2.2.1);have key:=Zl1 (M:=M) (it:=⟨L.map ph,Ya n⟩) (λS hS=>decide_eq_true ((hS n hnl).trans hn)) (v0:=Ya (.ref n)) (v1:=Ya (.int z)) L S0 [G_ M.length eY []] 0 Yj Yj Yj (ZqQ M) Lt.one (by omega) hL;have m1:=ZnA (env:=[Ya (.ref n),Ya (.int z),Yj,Yj,Yj,Yj]) (S:=M) (e:=jb (Zb (eC (.str eY)) (Zg))) (h:=eY) (hd:=[]) (pP rfl rfl);have h0:fO (aJ 2 (b_ (Zb (yp gM wj (Zb (jb (Zb (eC (.str eY)) (Zg))) (Zg))) (Zg)))) [Ya (.ref n),Ya (.int z),Yj,Yj,Yj,Yj] M= .nx [Ya (.ref n),Ya (.int z),Ya (.ref (M.length+3)),Yj,Yj,Yj] S0:=sX (Zr (d:=.ref (M.length+3)) (M':=S0) ((jh (Zo m1 rfl) rfl).trans (by simp[S0])));have hi0:eQ (Za 0) [Ya (.ref n),Ya (.int z),Ya (.ref (M.length+3)),Yj,Yj,Yj] S0= .ok ⟨L.map ph,Ya n⟩ S0:=by show(R3.ok (D.ref n) S0).bind _=_;simp only[R3.bind];rw[show S0[n]?=Ya (.lst (L.map ph))from((ZqQ M).pre n hnl).trans hn]
 have ek:[G_ M.length eY []].map Bk.pf=[(⟨eY,[],[],[]⟩:Pf)]:=rfl;rw[ek]at key;unfold UG;cases hr:jj (L.map λq=>(q.1,q.2.2)) [⟨eY,[],[],[]⟩]with
 |inl i=>rw[hr]at key;obtain⟨S',h,h1,h2⟩:=key;refine⟨S',Ux (env:=[Ya (.ref n),Ya (.int z),Yj,Yj,Yj,Yj]) ?_,h1,h2⟩;unfold GC;exact(Ze h0).trans (Uw ((Uy hi0).trans h))|inr fs=>
  have lt:=lt fs hr;rw[hr]at key;obtain⟨S',ks',y3,y4,y5,h,I,e⟩:=key;have e2:ks'.length=fs.length:=by rw[←e,Yw]
  match fs,ks',e,e2,I,lt with
  |[],_,_,_,_,lt=>exact absurd rfl lt.ne|[f],[k],e,_,I,lt=>
   intro hbl;have e:=(iY e).1;have hcl:k.cl=[]:=zO.mp ((congrArg Pf.cl e).trans lt.end_.2);have hcur:k.cur=f.cur:=congrArg Pf.cur e;have hk:=I.bk.hk k Yg;refine(kJ (M':=S') (d:=.tup f.cur) (env:=[Ya (.ref n),Ya (.int z),Yj,Yj,Yj,Yj]) ?_).trans ?_
   .unfold GC;refine(Ze h0).trans ((Ze ((Uy hi0).trans h)).trans ?_);refine(Ze ((pO (M':=S') (yU (Zj (cQ rfl (kO I.bk.hb)) rfl (by rw[pN];rfl)))).trans (sX rfl))).trans ?_;refine Zvg (cF (cQ (Zj (eU (Zj rfl rfl (jy I.bk.hb (iy _ 0))) hk.lists) rfl (jy hk.hl (d:=.ref k.cn) (by rw[hcl];exact iy _ 0))) ((Ay hk.hn).trans (by rw[hcur]))))
   .have ht:S'.take M.length=M:=by
     apply zR;intro a;by_cases ha:a<M.length
     .rw[vA ha];exact I.pre a ha
     .rw[zM (by rw[xu];omega),zM (iW ha)]
    unfold dG;rw[show below M.length (.tup f.cur)=true from hbl,ht,decide_eq_true rfl];rfl
  |f::f2::fs,k::k2::ks,e,_,I,lt=>refine⟨S',Ux (env:=[Ya (.ref n),Ya (.int z),Yj,Yj,Yj,Yj]) ?_,I.len,I.pre⟩;unfold GC;refine(Ze h0).trans ((Ze ((Uy hi0).trans h)).trans ?_);refine Uw ((cP (M':=S') (yU (Zj (cQ rfl (kO I.bk.hb)) rfl ?_))).trans (Ziw rfl hz));rw[pN];simp;omega
noncomputable def d_:Option (List (List Nat))->List Nat
 |none=>[]|some ws=>glue [32] ws
structure Hg(ws:List (List Nat)):Prop where
 ne:ws≠[]
 fr:∀w∈ws,32∉w/\10∉w
 tx:glue [32] ws≠[]
 le:(glue [32] ws).length<=10000
noncomputable def rowsOf:Nat->List (Option (List (List Nat)))->List (Int×List (List Nat))
 |_,[]=>[]|k,Yj::r=>rowsOf (k+1) r|k,Ya ws::r=>((k:Nat),ws)::rowsOf (k+1) r
noncomputable def sY(n:Nat):List (Int×List (List Nat))->List D
 |[]=>[]|q::r=>.tup [.int q.1,.ref n]::sY (n+1) r
noncomputable abbrev uO(L:List (Int×List (List Nat))):Store:=L.map λq=>MO.lst (q.2.map D.str)
noncomputable abbrev bI:E3:=jb (Zb (Za 4) (Zb (bB iw rO (Za 5) (Zb (eC (.str [32])) (Zg))) (Zg)))
theorem UJ{ty:D->Store->Bool}{me:D->List D->Store->R3 D}{o:E3}{M M1 M2 M3:Store}{a:D}(h1:o env M= .ok a M1)(hi:ty a M1=true)(h2:g env M1= .ok ds M2)(h3:me a ds M2= .ok d M3):bB ty me o g env M= .ok d M3:=by simp only[bB,h1,R3.bind,hi,if_true,h2,h3]
theorem UL{x:List Nat}{c:Nat}(h:x.length<=900000):rO (.str x) [.str [c]] M= .ok (.ref M.length) (M++[.lst ((lZ x [c]).map D.str)]):=by rw[ZjB,if_pos ⟨by simp,Yp (show x.length+2<=1000000 by exact lA 1 0xf42405b21b0c0dbba05b001 T1 h) (by decide)⟩];rfl
theorem UT{M:Store}{lk:List (Nat×List D)}(hlk:je lk M=true):∀(Ls:List (Option (List (List Nat)))) (k:Nat) (acc:List D) (W:Store) (v0 v1 v2 v3 x y:Option D),(∀ws,Ya ws∈Ls->Hg ws)->acc.length+Ls.length<=10000 ->
  jf lk (jc [4,5]) [e2 iI (Za 5) (eC (.str []))] bI M.length (kW k (Ls.map λl=>D.str (d_ l))) [v0,v1,v2,v3,x,y] (M++ .lst acc::W)
   = .ok (.ref M.length) (M++ .lst (acc++sY (M.length+1+W.length) (rowsOf k Ls))::(W++uO (rowsOf k Ls)))
 |[],k,acc,W,v0,v1,v2,v3,x,y,_,_=>by show jf _ _ _ _ _ [] _ _=_;simp only[jf,G8 hlk,if_true,rowsOf,sY,uO,vD,iD]|none::Ls,k,acc,W,v0,v1,v2,v3,x,y,hL,hl=>by rw[Yk]at hl;have ih:=UT hlk Ls (k+1) acc W v0 v1 v2 v3 (Ya (.int (k:Nat))) (Ya (.str [])) (λws hw=>hL ws (Ye _ hw)) (lB 1 0x27104b10c027104ba1c0c01 T1 hl);have ht:e2 iI (Za 5) (eC (.str [])) [v0,v1,v2,v3,Ya (.int (k:Nat)),Ya (.str [])] (M++ .lst acc::W)= .ok (.bl false) (M++ .lst acc::W):=Zj rfl rfl (ZtK rfl);show jf _ _ _ _ _ (.tup [.int (k:Nat),.str []]::kW (k+1) (Ls.map λl=>D.str (d_ l))) _ _=_;simp only[jf,G8 hlk,if_true,jc,J4,J3,zP,zQ,Fq,ht,R3.bind,DX,if_false];exact ih|some ws::Ls,k,acc,W,v0,v1,v2,v3,x,y,hL,hl=>by
  rw[Yk]at hl;have ok:=hL ws Yg
  let S:=M++ .lst acc::W
  have hS:S.length=M.length+1+W.length:=by simp[S];exact gn (lB 0 1790139547840 T1) (lB 0 0xa1c0c1a0cc0 T1)
  have ih:=UT hlk Ls (k+1) (acc++[.tup [.int (k:Nat),.ref S.length]]) (W++[.lst (ws.map D.str)]) v0 v1 v2 v3 (Ya (.int (k:Nat))) (Ya (.str (glue [32] ws))) (λws hw=>hL ws (Ye _ hw)) (by simp;exact lB 1 0x27104b1a0cc027104ba1c0c01 T1 hl);have ht:e2 iI (Za 5) (eC (.str [])) [v0,v1,v2,v3,Ya (.int (k:Nat)),Ya (.str (glue [32] ws))] S= .ok (.bl true) S:=Zj rfl rfl (Zw2 ok.tx);have hsp:lZ (glue [32] ws) [32]=ws:=Ul 32 ws ok.ne λw hw=>(ok.fr w hw).1;have he:bI [v0,v1,v2,v3,Ya (.int (k:Nat)),Ya (.str (glue [32] ws))] S= .ok (.tup [.int (k:Nat),.ref S.length]) (S++[.lst (ws.map D.str)]):=by refine pP (Zo rfl (Zo (UJ rfl rfl (Zo rfl rfl) ((UL (Yp ok.le (by decide))).trans (by rw[hsp]))) rfl)) rfl
  have gt:(S++[MO.lst (ws.map D.str)])[M.length]?=Ya (.lst acc):=Zv (Zy _ _ _) _;have lt:acc.length<SZ:=j5 (show acc.length<=10000 by exact lB 1 0x27104b0027104ba1c0c01 T1 hl) (by decide);have st:(S++[MO.lst (ws.map D.str)]).set M.length (.lst (acc++[.tup [.int (k:Nat),.ref S.length]]))=M++ .lst (acc++[.tup [.int (k:Nat),.ref S.length]])::(W++[.lst (ws.map D.str)]):=by simp[S]
  show jf _ _ _ _ _ (.tup [.int (k:Nat),.str (glue [32] ws)]::kW (k+1) (Ls.map λl=>D.str (d_ l))) _ S=_;have hlS:je lk S=true:=G8 hlk _;simp only[jf,hlS,if_true,jc,J4,J3,zP,zQ,Fq,J5,ht,R3.bind,he,gt,lt,st];rw[ih];simp only[rowsOf,sY,uO,Yv,Yy,xF,mQ,Yl,lQ,hS,xM]
theorem ZmO{Ls:List (Option (List (List Nat)))}(hne:Ls≠[])(hLs:∀ws,Ya ws∈Ls->Hg ws):(lZ (glue [10] (Ls.map d_)) [10]).map D.str=Ls.map λl=>D.str (d_ l):=by
 have hfree:∀t∈Ls.map d_,10∉t:=by
  intro t hm;obtain⟨l,hl,rfl⟩:=lR.mp hm;cases l with
  |none=>intro z;cases z|some ws=>
   have ok:=hLs ws hl;have key:∀vs:List (List Nat),(∀w∈vs,10∉w)->10∉glue [32] vs:=by
    intro vs
    induction vs with
    |nil=>intro _ z;cases z|cons v vs ih=>
     intro hv;cases vs with
     |nil=>exact hv v Yg|cons u us=>
      rw[lz];intro z;rcases gP.mp z with z|z
      .exact hv v Yg z
      .rcases gP.mp z with z|z
       .cases Yr.mp z
       .exact ih (λw hw=>hv w (Ye _ hw)) z
   exact key ws λw hw=>(ok.fr w hw).2
 rw[Ul 10 _ (λe=>hne (zO.mp e)) hfree,zV];rfl
noncomputable def gb:Nat->List (Option Rw)->List (Int×Rw)
 |_,[]=>[]|k,Yj::r=>gb (k+1) r|k,Ya w::r=>((k:Nat),w)::gb (k+1) r
noncomputable abbrev jB(Ls:List (Option Rw)):List (Option (List (List Nat))):=Ls.map λl=>l.map Rw.words
theorem UV:∀(k:Nat) (Ls:List (Option Rw)),rowsOf k (jB Ls)=(gb k Ls).map λq=>(q.1,q.2.words)
 |_,[]=>rfl|k,Yj::r=>UV (k+1) r|k,Ya w::r=>by show(((k:Nat):Int),w.words)::rowsOf (k+1) (jB r)=_;rw[UV (k+1) r];rfl
theorem Cz:∀(k:Nat) (Ls:List (Option Rw)),(gb k Ls).length<=Ls.length
 |_,[]=>Yo _|k,Yj::r=>Pb (Cz (k+1) r)|k,Ya _::r=>zX (Cz (k+1) r)
theorem Hh:∀{k:Nat} {Ls:List (Option Rw)} {q:Int×Rw},q∈gb k Ls->Ya q.2∈Ls/\q.1.natAbs<k+Ls.length
 |_,[],_,h=>nomatch h|k,Yj::r,q,h=>by obtain⟨a,b⟩:=Hh (k:=k+1) (Ls:=r) h;exact⟨Ye _ a,by rw[Yk];omega⟩
 | k,Ya w::r,q,h=>by
  rcases Ym.mp h with e|h
  .rw[e];exact⟨Yg,by rw[Yk];show(k:Int).natAbs<_;omega⟩
  .obtain⟨a,b⟩:=Hh (k:=k+1) (Ls:=r) h;exact⟨Ye _ a,by rw[Yk];omega⟩
noncomputable def yV(n:Nat):List (Int×Rw)->List (Int×Nat×Rw)
 |[]=>[]|q::L=>(q.1,n,q.2)::yV (n+1) L
theorem ZlX:∀(n:Nat) (L:List (Int×Rw)),(yV n L).map ph=sY n (L.map λq=>(q.1,q.2.words))/\((yV n L).map λq=>(q.1,q.2.2))=L/\(yV n L).length=L.length
 |_,[]=>⟨rfl,rfl,rfl⟩|n,q::L=>by obtain⟨h1,h2,h3⟩:=ZlX (n+1) L;exact⟨by show ph (q.1,n,q.2)::(yV (n+1) L).map ph=_;rw[h1];rfl,by show(q.1,q.2)::_=_;rw[h2],congrArg (· +1) h3⟩
theorem ZnU{S:Store}:∀(n:Nat) (L:List (Int×Rw)),(∀j,j<L.length->S[n+j]?=(uO (L.map λq=>(q.1,q.2.words)))[j]?)->∀q∈yV n L,S[q.2.1]?=Ya (.lst (q.2.2.words.map D.str))/\(q.1,q.2.2)∈L
 |_,[],_,q,hq=>nomatch hq|n,p::L,hS,q,hq=>by
  rcases Ym.mp hq with e|e
  .rw[e];exact⟨(hS 0 (by simp)).trans rfl,Yg⟩
  .obtain⟨a,b⟩:=ZnU (n+1) L (λj hj=>by have:=hS (j+1) (by simpa using hj);rw[xM,q9 1 j];exact this) q e;exact⟨a,Ye _ b⟩
structure Lq(r:Rw):Prop where
 ok:yQ r
 ln:Hg r.words
 tl:r.tl.length<100
 nt:r.h≠[116,97,107,101]
def Ztn(M:Store)(z:Int)(r:Sum Int (List Pf))(o:R3 D):Prop:=match r with
 | .inl i=>qP M i o|.inr [k]=>(∀n,bJ n k.cur=true)->o= .ok (.tup [.tup [],.tup k.cur]) M|.inr _=>qP M z o
theorem Zqe{a e:E3}{M M1 M2:Store}{x y:D}(h1:a env M= .ok x M1)(h2:e env M1= .ok y M2):v_ a e env M= .ok (.tup [x,y]) M2:=by simp only[v_,yU h1,h2]
theorem Zpm{a e:E3}{M M1 M2:Store}{x:D}{q:X3}(h1:a env M= .ok x M1)(h2:e env M1= .exc q M2):v_ a e env M= .exc q M2:=by simp only[v_,yU h1,h2]
theorem Zra{f:E3}{x:X3}(h:f env M= .exc x M'):aX f env M= .exc x M':=by rw[aX,h]
theorem UW{F:F3}{M M1:Store}(h:g env M= .ok ds M1):bf F (pQ g) env M=F ds M1:=by show(pQ g env M).bind F=_;rw[ZrS h];rfl
theorem qP.up{z:Int}{o:R3 D}(h:qP M' z o)(l:M.length<=M'.length)(e:∀a,a<M.length->M'[a]?=M[a]?):qP M z o:=by obtain⟨S',q,q1,q2⟩:=h;exact⟨S',q,Yp l q1,λa ha=>(q2 a (Y6 ha l)).trans (e a ha)⟩
variable{Ls:List (Option Rw)}
theorem Zt3(hne:Ls≠[])(hok:∀r,Ya r∈Ls->Lq r)(hn:Ls.length<900)(ht:(glue [10] ((jB Ls).map d_)).length<=900000):
  Ztn M ((Ls.length:Int)+1) (jj (gb 1 Ls) [⟨eY,[],[],[]⟩]) (yL [.str (glue [10] ((jB Ls).map d_))] M):=by
 let T:=glue [10] ((jB Ls).map d_)
 let M1:=M++[MO.lst ((jB Ls).map λl=>D.str (d_ l))]
 let L:=(gb 1 Ls).map λq=>(q.1,q.2.words)
 let M2:=M1++MO.lst (sY (M1.length+1) L)::uO L
 have hne':jB Ls≠[]:=λe=>hne (zO.mp e);have hLs:∀ws,Ya ws∈jB Ls->Hg ws:=λws hw=>by
  obtain⟨l,hl,e⟩:=lR.mp hw;cases l with
  |none=>cases e|some r=>cases e;exact(hok r hl).ln
 have s1:bB iw rO (Za 0) (Zb (eC (.str [10])) (Zg)) [Ya (.str T),Yj,Yj,Yj] M= .ok (.ref M.length) M1:=UJ rfl rfl (Zo rfl rfl) ((UL ht).trans (by rw[ZmO hne' hLs]));have h1:M1[M.length]?=Ya (.lst ((jB Ls).map λl=>D.str (d_ l))):=Zy _ _ _;have lk:je [(M.length,(jB Ls).map λl=>D.str (d_ l))] M1=true:=by simp only[je,iU,O_,Jb];exact decide_eq_true h1
 have lp:=UT lk (jB Ls) 1 [] [] (Ya (.str T)) (Ya (.ref M.length)) Yj Yj Yj Yj hLs (by simp;omega);rw[UV]at lp;have s2:vW (RQ (Za 1)) 2 (jc [4,5]) [e2 iI (Za 5) (eC (.str []))] bI [Ya (.str T),Ya (.ref M.length),Yj,Yj] M1= .ok (.ref M1.length) M2:=by show(R3.bind (R3.bind (R3.ok (D.ref M.length) M1) _) _)=_;simp only[R3.bind,h1];exact lp
 have Cr:M2[M1.length]?=Ya (.lst (sY (M1.length+1) L)):=Zy _ _ _;have hobj:∀j,M2[M1.length+1+j]?=(uO L)[j]?:=λj=>by show(M1++MO.lst _::uO L)[_]?=_;rw[xM,yg,q9 1 j];rfl
 have h12:M2[M.length]?=Ya (.lst ((jB Ls).map λl=>D.str (d_ l))):=Zv h1 _;have hlen:e2 cJ (aG bx (Zb (Za 1) (Zg))) (eC (.int 1)) [Ya (.str T),Ya (.ref M.length),Ya (.ref M1.length),Ya (.tup [])] M2= .ok (.int ((Ls.length:Int)+1)) M2:=Zj (cQ rfl (kO h12)) rfl (by rw[Yw,Yw];rfl);obtain⟨p1,p2,p3⟩:=ZlX (M1.length+1) (gb 1 Ls);have pa:=ZnU (S:=M2) (M1.length+1) (gb 1 Ls) (λj _=>hobj j);have small:∀i:Int,i.natAbs<1000->i.natAbs.log2<1000:=λi hi=>j5 (X8 _) hi;have rd:=Zkk (M:=M2) (n:=M1.length) (L:=yV (M1.length+1) (gb 1 Ls)) (z:=(Ls.length:Int)+1) (by rw[p1];exact Cr) (small _ (by omega)) (by rw[p3];have:=Cz 1 Ls;omega) (λq hq=>by obtain⟨a,b⟩:=pa q hq;obtain⟨c,d⟩:=Hh b;exact⟨a,(hok _ c).ok,(hok _ c).tl,small _ (by have:q.1.natAbs<1+Ls.length:=d;omega)⟩);rw[p2]at rd;have hM:M2=M++([MO.lst ((jB Ls).map λl=>D.str (d_ l)),.lst (sY (M1.length+1) L)]++uO L):=by simp[M2,M1]
 have cond:eO (e2 jo (aG bx (Zb (Za 2) (Zg))) (eC (.int 0))) (e2 aN (e2 Zz (e2 Zz (e2 Zz (Za 2) (eC (.int 0))) (eC (.int 1))) (eC (.int 0))) (eC (.str [116,97,107,101]))) [Ya (.str T),Ya (.ref M.length),Ya (.ref M1.length),Ya (.tup [])] M2= .ok (.bl false) M2:=by
  cases hL:gb 1 Ls with
  |nil=>exact oR (Zj (cQ rfl (kO Cr)) rfl (by simp only[L,hL];rfl))|cons q L'=>
   have hq:=(hok q.2 (Hh (by rw[hL];exact Yg)).1).nt;have hLc:L=(q.1,q.2.words)::L'.map λq=>(q.1,q.2.words):=by simp only[L,hL];rfl
   rw[lY (M1:=M2) (Zj (cQ rfl (kO Cr)) rfl (by rw[hLc,pN,decide_eq_true (by show(0:Int)<((sY _ _).length+1:Nat);omega)]))];have o0:M2[M1.length+1]?=Ya (.lst (q.2.words.map D.str)):=(hobj 0).trans (by rw[hLc];rfl);refine Zj (Zj (Zj (Zj rfl rfl (jy Cr (d:=.tup [.int q.1,.ref (M1.length+1)]) (by rw[hLc];exact iy _ 0))) rfl (Az (iy _ 1))) rfl (jy o0 (d:=.str q.2.h) (iy _ 0))) rfl (fQ.trans (by rw[decide_eq_false hq]))
 have go:K8 [Ya (.str T),Yj,Yj,Yj] M=aX (v_ (Za 3) (bf wk (pQ (Zb (Za 2) (Zb (e2 cJ (aG bx (Zb (Za 1) (Zg))) (eC (.int 1))) (Zg)))))) [Ya (.str T),Ya (.ref M.length),Ya (.ref M1.length),Ya (.tup [])] M2:=by unfold K8;exact(Ze (sX (Zr s1))).trans ((Ze (sX (Zr s2))).trans ((Ze (sX (Zr (d:=.tup []) (M':=M2) (pP rfl rfl)))).trans (Ze ((pO (yU cond)).trans (sX rfl)))))
 have hc:bf wk (pQ (Zb (Za 2) (Zb (e2 cJ (aG bx (Zb (Za 1) (Zg))) (eC (.int 1))) (Zg)))) [Ya (.str T),Ya (.ref M.length),Ya (.ref M1.length),Ya (.tup [])] M2=wk [.ref M1.length,.int ((Ls.length:Int)+1)] M2:=UW (Zo rfl (Zo hlen rfl));have lM:M.length<=M2.length:=by rw[hM,Yl];omega
 have eM:∀a,a<M.length->M2[a]?=M[a]?:=λa ha=>by rw[hM,Y3 ha]
 have bad:∀z,qP M2 z (wk [.ref M1.length,.int ((Ls.length:Int)+1)] M2)->qP M z (yL [.str T] M):=λz h=>by obtain⟨S',q,q1,q2⟩:=h;refine qP.up ⟨S',Ux (env:=[Ya (.str T),Yj,Yj,Yj]) ?_,q1,q2⟩ lM eM;rw[go];exact Zra (Zpm rfl (hc.trans q))
 unfold UG at rd;unfold Ztn;cases hr:jj (gb 1 Ls) [⟨eY,[],[],[]⟩]with
 |inl i=>rw[hr]at rd;exact bad _ rd|inr fs=>
  rw[hr]at rd
  match fs,rd with
  |[],rd=>exact bad _ rd|[k],rd=>
   intro hb;refine Rt.pure (G:=[MO.lst ((jB Ls).map λl=>D.str (d_ l)),.lst (sY (M1.length+1) L)]++uO L) (env:=[Ya (.str T),Yj,Yj,Yj]) ?_ ?_
   .rw[←hM,go];exact cF (Zqe rfl (hc.trans (rd (hb _))))
   .show(bJ M.length []&&(bJ M.length k.cur&&true))=true;rw[hb];rfl
  |_::_::_,rd=>exact bad _ rd
theorem Lr(h:M.length<=n):dG M (.ref n) M'= .ok (.ref n) M':=by
 have hb:below M.length (.ref n)=false:=by show decide (n<M.length)=false;exact decide_eq_false (λz=>lB 2 25786650641 T1 z h)
 unfold dG;rw[hb];rfl
theorem U0(x:List Nat):∀l:List (List Nat),((l.map D.str).any λy=>cG y (.str x))=decide (x∈l)
 |[]=>rfl|y::l=>by
  rw[Yv,jY,U0 x l];by_cases h:y=x
  .subst h;simp[cG]
  .simp[cG,h,bT h]
theorem U3:∀l:List (List Nat),(l.map D.str).all b8=true
 |[]=>rfl|y::l=>by rw[Yv,iU,U3 l];rfl
variable{l:List (List Nat)}
theorem ZtO{x:List Nat}(h:M[n]?=Ya (.lst (l.map D.str))):rP (.str x) (.ref n) M= .ok (.bl (decide (x∈l))) M:=by rw[ZqU,h];show(if(b8 (D.str x)&&(l.map D.str).all b8)=true then _ else _)=_;rw[if_pos (by rw[U3];rfl),U0]
theorem ZsB{x:List Nat}(h:M[n]?=Ya (.lst (l.map D.str))):Be (.str x) (.ref n) M= .ok (.bl (!decide (x∈l))) M:=by
 show(match M[n]? with
  |some (.lst ys)=>if b8 (D.str x)&&ys.all b8 then R3.ok (D.bl (!ys.any λy=>cG y (.str x))) M else .bad|_=>.bad)=_
 rw[h];show(if(b8 (D.str x)&&(l.map D.str).all b8)=true then _ else _)=_;rw[if_pos (by rw[U3];rfl),U0]
theorem Lw{a b w:List Nat}{i:Nat}(hv:Za i env M= .ok (.str w) M):e2 rP (Za i) (b_ (Zb (eC (.str a)) (Zb (eC (.str b)) (Zg)))) env M= .ok (.bl (decide (w∈[a,b]))) (M++[.lst [.str a,.str b]]):=Zj hv (jh (Zo rfl (Zo rfl rfl)) rfl) (ZtO (l:=[a,b]) (Zy _ _ _))
abbrev jQ(M:Store)(s:Nat)(ts:List (List Nat)):Prop:=M[s]?=Ya (.lst (ts.reverse.map D.str))
noncomputable def U4(ts:List (List Nat)):Bool:=match ts with
 |[]=>false|t::_=>decide (t=aM)
noncomputable def U5(ts:List (List Nat)):Bool:=match ts with
 |[]=>false|t::_=>!decide (t=aM)
noncomputable def g8(ts:List (List Nat))(w:List Nat):Bool:=if w∈[aM,dY]then decide (ts.length<12)else if w=aQ then U4 ts else if w=aR then U5 ts else true
noncomputable def g_(ts:List (List Nat))(w:List Nat):List (List Nat):=if w∈[aM,dY]then w::ts else if w=aQ then aQ::ts.tail else if w=aR then ts.tail else ts
section
variable {M:Store} {s:Nat} {ts:List (List Nat)}
theorem uP(K:jQ M s ts){i:Nat}(hv:Za i env M= .ok (.ref s) M):e2 sO (Za i) (b_ (Zg)) env M= .ok (.bl (!ts.isEmpty)) (M++[.lst []]):=by refine Zj hv (jh rfl rfl) ((ZqA (Zv K _) (Zy _ _ _)).trans ?_);cases ts<;>simp
theorem Lx{t:List Nat}(K:jQ M s (t::ts)){i:Nat}(hv:Za i env M= .ok (.ref s) M):e2 Zz (Za i) (e1 gH (eC (.int 1))) env M= .ok (.str t) M:=by refine Zj hv (eU rfl (Ez 1)) (jy K ?_);rw[Dz,pI];exact getD_last _ _
theorem Zrz(K:jQ M s ts)(w:List Nat):uH [.ref s,.str w] M= .ok (.bl (g8 ts w)) M:=by
 let G1:Store:=[.lst [.str aM,.str dY]]
 have K1:jQ (M++G1) s ts:=Zv K _;have c1:=Lw (a:=aM) (b:=dY) (w:=w) (env:=[Ya (.ref s),Ya (.str w)]) (i:=1) (M:=M) rfl;by_cases h1:w∈[aM,dY]
 .rw[show g8 ts w=decide (ts.length<12)from if_pos h1];refine Rt.pure (G:=G1) (env:=[Ya (.ref s),Ya (.str w)]) ?_ rfl;unfold BZ;refine iK ((cP (c1.trans (by rw[decide_eq_true h1]))).trans (cF (Zj (cQ rfl (kO K1)) rfl ?_)));rw[Ak,Yw,Iu];by_cases h:ts.length<12
  .rw[decide_eq_true h,decide_eq_true (by omega)]
  .rw[decide_eq_false h,decide_eq_false (by omega)]
 have c1':=c1.trans (show _=R3.ok (D.bl false) (M++G1)by rw[decide_eq_false h1]);by_cases h2:w=aQ
 .rw[show g8 ts w=U4 ts by unfold g8;rw[if_neg h1,if_pos h2]];refine Rt.pure (G:=G1++[.lst []]) (env:=[Ya (.ref s),Ya (.str w)]) ?_ rfl;unfold BZ;refine(Ze (Zq c1')).trans (iK ((cP (M':=M++G1) (Zj rfl rfl (fQ.trans (by rw[decide_eq_true h2])))).trans (cF ?_)));rw[←Yy];cases ts with
  |nil=>exact oR (uP K1 rfl)|cons t ts=>exact(lY (uP K1 rfl)).trans (Zj (Lx (Zv K1 _) rfl) rfl fQ)
 have c2:e2 aN (Za 1) (eC (.str aQ)) [Ya (.ref s),Ya (.str w)] (M++G1)= .ok (.bl false) (M++G1):=Zj rfl rfl (fQ.trans (by rw[decide_eq_false h2]));by_cases h3:w=aR
 .rw[show g8 ts w=U5 ts by unfold g8;rw[if_neg h1,if_neg h2,if_pos h3]];refine Rt.pure (G:=G1++[.lst []]) (env:=[Ya (.ref s),Ya (.str w)]) ?_ rfl;unfold BZ;refine(Ze (Zq c1')).trans ((Ze (Zq c2)).trans (iK ((cP (M':=M++G1) (Zj rfl rfl (fQ.trans (by rw[decide_eq_true h3])))).trans (cF ?_))));rw[←Yy];cases ts with
  |nil=>exact oR (uP K1 rfl)|cons t ts=>refine(lY (uP K1 rfl)).trans (Zj (Lx (Zv K1 _) rfl) rfl ?_);simp only[iI,vU];rfl
 have c3:e2 aN (Za 1) (eC (.str aR)) [Ya (.ref s),Ya (.str w)] (M++G1)= .ok (.bl false) (M++G1):=Zj rfl rfl (fQ.trans (by rw[decide_eq_false h3]));rw[show g8 ts w=true by unfold g8;rw[if_neg h1,if_neg h2,if_neg h3]];refine Rt.pure (G:=G1) (env:=[Ya (.ref s),Ya (.str w)]) ?_ rfl;unfold BZ;exact(Ze (Zq c1')).trans ((Ze (Zq c2)).trans ((Ze (Zq c3)).trans (cF rfl)))
theorem ZjG(K:jQ M s ts)(w:List Nat)(hz:ts.length<=1000):∃n G,yM [.ref s,.str w] M= .ok (.ref n) (M++G)/\jQ (M++G) n (g_ ts w)/\(n=s\/M.length<=n):=by
 let G1:Store:=[MO.lst [D.str aM,.str dY]]
 have K1:jQ (M++G1) s ts:=Zv K _;have hs:s<M.length:=(Yh.mp K).1;have c1:=Lw (a:=aM) (b:=dY) (w:=w) (env:=[Ya (.ref s),Ya (.str w)]) (i:=1) (M:=M) rfl;have rz:(ts.reverse.map D.str).length=ts.length:=by simp
 by_cases h1:w∈[aM,dY]
 .refine⟨(M++G1++[MO.lst [D.str w]]).length,G1++[MO.lst [D.str w]]++[MO.lst (ts.reverse.map D.str++[D.str w])],(kJ (M':=M++(G1++[MO.lst [D.str w]]++[MO.lst (ts.reverse.map D.str++[D.str w])])) (env:=[Ya (.ref s),Ya (.str w)]) ?_).trans (Lr (by simp)),?_,.inr (by simp)⟩
  .unfold B_;rw[←Yy,←Yy];exact iK ((cP (c1.trans (by rw[decide_eq_true h1]))).trans (cF (Zj rfl (jh (Zo rfl rfl) rfl) (Lk (Zv K1 _) (Zy _ _ _) (by rw[rz];show ts.length+1<=_;omega)))))
  .show(M++_)[_]?=_;rw[←Yy,←Yy,Zy,show g_ ts w=w::ts from if_pos h1];simp
 have c1':=c1.trans (show _=R3.ok (D.bl false) (M++G1)by rw[decide_eq_false h1]);have sl:dD (Za 0) (gJ) (bQ (e1 gH (eC (.int 1)))) [Ya (.ref s),Ya (.str w)] (M++G1)= .ok (.ref (M++G1).length) (M++G1++[MO.lst (ts.tail.reverse.map D.str)]):=by
  refine(Cv (a:=Yj) (b:=Ya (-1)) rfl rfl rfl K1).trans ?_;rw[ZqK];cases ts with
  |nil=>rfl|cons t ts=>simp
 by_cases h2:w=aQ
 .refine⟨(M++G1++[MO.lst (ts.tail.reverse.map D.str)]++[MO.lst [D.str aQ]]).length,G1++[MO.lst (ts.tail.reverse.map D.str)]++[MO.lst [D.str aQ]]++[MO.lst (ts.tail.reverse.map D.str++[D.str aQ])],(kJ (M':=M++(G1++[MO.lst (ts.tail.reverse.map D.str)]++[MO.lst [D.str aQ]]++[MO.lst (ts.tail.reverse.map D.str++[D.str aQ])])) (env:=[Ya (.ref s),Ya (.str w)]) ?_).trans (Lr (by simp)),?_,.inr (by simp)⟩
  .unfold B_;rw[←Yy,←Yy,←Yy];exact(Ze (Zq c1')).trans (iK ((cP (M':=M++G1) (Zj rfl rfl (fQ.trans (by rw[decide_eq_true h2])))).trans (cF (Zj sl (jh (Zo rfl rfl) rfl) (Lk (Zv (Zy _ _ _) _) (Zy _ _ _) (by simp only[Yw,Iu,List.length_tail,lQ];omega))))))
  .show(M++_)[_]?=_;rw[←Yy,←Yy,←Yy,Zy,show g_ ts w=aQ::ts.tail by unfold g_;rw[if_neg h1,if_pos h2]];simp
 have c2:e2 aN (Za 1) (eC (.str aQ)) [Ya (.ref s),Ya (.str w)] (M++G1)= .ok (.bl false) (M++G1):=Zj rfl rfl (fQ.trans (by rw[decide_eq_false h2]));by_cases h3:w=aR
 .refine⟨(M++G1).length,G1++[MO.lst (ts.tail.reverse.map D.str)],(kJ (M':=M++(G1++[MO.lst (ts.tail.reverse.map D.str)])) (env:=[Ya (.ref s),Ya (.str w)]) ?_).trans (Lr (by simp)),?_,.inr (by simp)⟩
  .unfold B_;rw[←Yy];exact(Ze (Zq c1')).trans ((Ze (Zq c2)).trans (iK ((cP (M':=M++G1) (Zj rfl rfl (fQ.trans (by rw[decide_eq_true h3])))).trans (cF sl))))
  .show(M++_)[_]?=_;rw[←Yy,Zy,show g_ ts w=ts.tail by unfold g_;rw[if_neg h1,if_neg h2,if_pos h3]]
 have c3:e2 aN (Za 1) (eC (.str aR)) [Ya (.ref s),Ya (.str w)] (M++G1)= .ok (.bl false) (M++G1):=Zj rfl rfl (fQ.trans (by rw[decide_eq_false h3]));refine⟨s,[],?_,?_,.inl rfl⟩
 .rw[iD];refine Rt.pure (G:=G1) (env:=[Ya (.ref s),Ya (.str w)]) ?_ (decide_eq_true hs);unfold B_;exact(Ze (Zq c1')).trans ((Ze (Zq c2)).trans ((Ze (Zq c3)).trans (cF rfl)))
 .rw[iD,show g_ ts w=ts by unfold g_;rw[if_neg h1,if_neg h2,if_neg h3]];exact K
end
noncomputable abbrev qQ:List (List Nat):=[Cu,aM,dY,aQ,aR,cU]
noncomputable def aO(w:List Nat)(m:Nat):Rw:=if w=cU then⟨cU,[[97]],[.num (m:Int)]⟩else if w∈[aQ,aR]then⟨w,[],[]⟩else⟨w,[],[.num (m:Int)]⟩
theorem sZ(h:m<10):cY (m:Int)=[48+m]:=(GZ m).trans (wz h)
theorem Ly(m:Nat):aO cU m=⟨cU,[[97]],[.num (m:Int)]⟩:=rfl
variable{w:List Nat}
theorem qR:(aO w m).h=w:=by
 unfold aO;split
 .rename_i h;exact h.symm
 .split <;>rfl
theorem Zqy(h:m<10):Lj [.num (m:Int)]:=⟨λt ht=>by rw[Yr.mp ht];show(m:Int).natAbs<_;rw[PQ];exact j6 h (by decide),(by decide:1<=60),by show sJ 0 [((1+0:Nat):Int)]<=6;decide⟩
theorem Zue:Lj []:=⟨(λt ht=>nomatch ht),(by decide:0<=60),by show sJ 0 []<=6;decide⟩
theorem Zun:sW [97]:=⟨by decide,by decide,by decide,λc hc=>by rw[Yr.mp hc];decide⟩
theorem U6{ws:List (List Nat)}(h1:ws≠[])(h2:∀w∈ws,∀c∈w,33<=c)(h3:glue [32] ws≠[])(h4:(glue [32] ws).length<=10000):Hg ws:=⟨h1,λw hw=>⟨λz=>absurd (h2 w hw _ z) (by decide),λz=>absurd (h2 w hw _ z) (by decide)⟩,h3,h4⟩
theorem Zoa:∀c∈[48+m],33<=c:=λc hc=>by rw[Yr.mp hc];omega
theorem CJ(hw:w∈qQ)(hm:m<10):Lq (aO w m):=by
 have one:∀{w:List Nat},w∈[Cu,aM,dY]->Lq ⟨w,[],[.num (m:Int)]⟩:=λ{w} hw=>by
  have e:(⟨w,[],[.num (m:Int)]⟩:Rw).words=[w,[48+m]]:=by show[w,cY (m:Int)]=_;rw[sZ hm]
  have hs:dX w nH=Ya 1/\w≠cU/\w≠[116,97,107,101]/\(∀c∈w,33<=c)/\w.length<=10/\w≠[]:=by
   rcases Ym.mp hw with rfl|hw
   .decide +kernel
   rcases Ym.mp hw with rfl|hw
   .decide +kernel
   rw[Yr.mp hw];decide +kernel
  refine⟨⟨hs.1,(if_neg hs.2.1).symm,(λx hx=>nomatch hx),Zqy hm,(by decide:1<=59)⟩,?_,(by decide:1<100),hs.2.2.1⟩;rw[e];refine U6 (by simp) (λv hv=>?_) ?_ ?_
  .rcases Ym.mp hv with rfl|hv
   .exact hs.2.2.2.1
   .rw[Yr.mp hv];exact Zoa
  .rw[lz];simp
  .rw[lz,Yl,Yl];show w.length+(1+1)<=_;have:=hs.2.2.2.2.1;omega
 have non:∀{w:List Nat},w∈[aQ,aR]->Lq ⟨w,[],[]⟩:=λ{w} hw=>by
  have hs:dX w nH=Ya 0/\w≠cU/\w≠[116,97,107,101]/\(∀c∈w,33<=c)/\w.length<=10/\w≠[]:=by
   rcases Ym.mp hw with rfl|hw
   .decide +kernel
   rw[Yr.mp hw];decide +kernel
  refine⟨⟨hs.1,(if_neg hs.2.1).symm,(λx hx=>nomatch hx),Zue,(by decide:0<=59)⟩,?_,(by decide:0<100),hs.2.2.1⟩;refine U6 (ws:=[w]) (by simp) (λv hv=>?_) ?_ ?_
  .rw[Yr.mp hv];exact hs.2.2.2.1
  .show w≠[];exact hs.2.2.2.2.2
  .show w.length<=_;have:=hs.2.2.2.2.1;omega
 unfold aO;by_cases h1:w=cU
 .rw[if_pos h1];have e:(⟨cU,[[97]],[.num (m:Int)]⟩:Rw).words=[cU,[97],[48+m]]:=by show[cU,[97],cY (m:Int)]=_;rw[sZ hm]
  refine⟨⟨(by decide +kernel:dX cU nH=Ya 1),rfl,(λx hx=>by rw[Yr.mp hx];exact Zun),Zqy hm,(by decide:1+1<=59)⟩,?_,(by decide:2<100),(by decide:cU≠[116,97,107,101])⟩;rw[e];refine U6 (by simp) (λv hv=>?_) ?_ ?_
  .rcases Ym.mp hv with rfl|hv
   .decide
   rcases Ym.mp hv with rfl|hv
   .decide
   rw[Yr.mp hv];exact Zoa
  .rw[lz];simp
  .rw[lz,lz];exact(by decide:7<=10000)
 rw[if_neg h1];by_cases h2:w∈[aQ,aR]
 .rw[if_pos h2];exact non h2
 .rw[if_neg h2];refine one ?_;simp only[Ym,ig,or_false,not_or]at hw h2 ⊢;rcases hw with h|h|h|h|h|h
  .exact .inl h
  .exact .inr (.inl h)
  .exact .inr (.inr h)
  .exact absurd h h2.1
  .exact absurd h h2.2
  .exact absurd h h1
theorem add_str{x y:List Nat}(h:x.length+y.length<=1000)(M:Store):cJ (.str x) (.str y) M= .ok (.str (x++y)) M:=by rw[ZrE,if_pos (Yp h (by decide))]
theorem ZuL{c:Int}(hw:w∈qQ)(M:Store):Ce [.str w,.int c] M= .ok (.str (glue [32] (aO w (c / 7 % 10).toNat).words)) M:=by
 obtain⟨m,em,hm⟩:∃m:Nat,c / 7 % 10=(m:Int)/\m<10:=⟨(c / 7 % 10).toNat,by omega,by omega⟩;have tn:(c / 7 % 10).toNat=m:=by omega
 rw[tn];have s1:aJ 2 (e2 gW (e2 jM (Za 1) (eC (.int 7))) (eC (.int 10))) [Ya (.str w),Ya (.int c),Yj] M= .nx [Ya (.str w),Ya (.int c),Ya (.int m)] M:=Zr (Zj (Zj rfl rfl (G4 (by decide))) rfl ((yh (by decide)).trans (by rw[em])));have st:∀{env:Zx} {S:Store},Za 2 env S= .ok (.int m) S->aG Ba (Zb (Za 2) (Zg)) env S= .ok (.str [48+m]) S:=λhv=>cQ hv (by rw[Znu,if_pos (j5 (X8 _) (by rw[PQ];omega)),sZ hm]);have wl:w.length<=10:=by simp only[Ym,ig,or_false]at hw;rcases hw with h|h|h|h|h|h<;>(rw[h];decide)
 by_cases h1:w=cU
 .subst h1;refine Rt.pure (G:=[]) (env:=[Ya (.str cU),Ya (.int c),Yj]) ?_ rfl;rw[iD];unfold K_;refine(Ze s1).trans (iK ((cP (M':=M) (Zj rfl rfl (fQ.trans rfl))).trans (cF (Zj rfl (st rfl) ((add_str (by show 6+1<=1000;decide) M).trans ?_)))));rw[Ly,show(⟨cU,[[97]],[.num (m:Int)]⟩:Rw).words=[cU,[97],cY (m:Int)]from rfl,sZ hm];rfl
 have c1:e2 aN (Za 0) (eC (.str cU)) [Ya (.str w),Ya (.int c),Ya (.int m)] M= .ok (.bl false) M:=Zj rfl rfl (fQ.trans (by rw[decide_eq_false h1]));have c2:=Lw (a:=aQ) (b:=aR) (w:=w) (env:=[Ya (.str w),Ya (.int c),Ya (.int m)]) (i:=0) (M:=M) rfl;refine Rt.pure (G:=[.lst [.str aQ,.str aR]]) (env:=[Ya (.str w),Ya (.int c),Yj]) ?_ rfl;unfold K_;refine(Ze s1).trans ((Ze (Zq c1)).trans ?_);by_cases h2:w∈[aQ,aR]
 .refine iK ((cP (c2.trans (by rw[decide_eq_true h2]))).trans (cF ?_));rw[show aO w m=⟨w,[],[]⟩by unfold aO;rw[if_neg h1,if_pos h2]];rfl
 .refine(Ze (Zq (c2.trans (by rw[decide_eq_false h2])))).trans (cF ?_);refine Zj (Zj rfl rfl (add_str (x:=w) (y:=[32]) (by show w.length+1<=_;omega) _)) (st rfl) ((add_str (by rw[Yl];show w.length+1+1<=_;omega) _).trans ?_);rw[show aO w m=⟨w,[],[.num (m:Int)]⟩by unfold aO;rw[if_neg h1,if_neg h2],show(⟨w,[],[.num (m:Int)]⟩:Rw).words=[w,cY (m:Int)]from rfl,sZ hm,lz,Yy];rfl
theorem ZlE(h0:0<=i)(h1:i<l.length):∃w∈l,Zz (.ref M.length) (.int i) (M++[.lst (l.map D.str)])= .ok (.str w) (M++[.lst (l.map D.str)]):=by
 obtain⟨j,rfl⟩:∃j:Nat,i=(j:Int):=⟨i.toNat,by omega⟩;have hj:j<l.length:=by omega
 refine⟨l[j],xx hj,jy (Zy _ _ _) ?_⟩;rw[iy,ou,jG hj];rfl
theorem Zjv:∀l:List (List Nat),(l.map D.str).all (cT DEEP)=true
 |[]=>rfl|y::l=>by rw[Yv,iU,Zjv l];rfl
theorem ZwF(K:jQ M s ts){i:Nat}(hv:Za i env M= .ok (.ref s) M):e2 aN (Za i) (b_ (Zg)) env M= .ok (.bl ts.isEmpty) (M++[.lst []]):=by
 refine Zj hv (jh rfl rfl) ?_;have h:oN (.ref s) (.ref M.length) (M++[.lst []])=Ya ts.isEmpty:=by
  rw[Al,Zv K,Zy];show(if((ts.reverse.map D.str).all (cT DEEP)&&([]:List D).all (cT DEEP))=true then Ya (gD (ts.reverse.map D.str) [])else Yj)=_;rw[Zjv];show Ya (gD (ts.reverse.map D.str) [])=Ya ts.isEmpty;cases ts with
  |nil=>rfl|cons t ts=>
   cases h:(t::ts).reverse.map D.str with
   |nil=>simp at h|cons a r=>rfl
 simp only[aN,h]
theorem Zq5(K:jQ M s ts)(c:Int):∃w∈qQ,GD [.int c,.ref s] M= .ok (.str w) M:=by
 let yW:List (List Nat):=[Cu,aM,dY,aQ,aR,aM,aQ,aR,cU,dY,aR]
 let M1:=M++[MO.lst (yW.map D.str)]
 have K1:jQ M1 s ts:=Zv K _;obtain⟨w0,h0,e0⟩:=ZlE (l:=yW) (i:=c / 16 % 11) (M:=M) (by omega) (by show _<(11:Int);omega);have hw0:w0∈qQ:=by simp only[yW,Ym,ig,or_false]at h0 ⊢;rcases h0 with h|h|h|h|h|h|h|h|h|h|h<;>simp[h]
 have s1:aJ 2 (e2 Zz (b_ (Zb (eC (.str Cu)) (Zb (eC (.str aM)) (Zb (eC (.str dY)) (Zb (eC (.str aQ)) (Zb (eC (.str aR)) (Zb (eC (.str aM)) (Zb (eC (.str aQ)) (Zb (eC (.str aR)) (Zb (eC (.str cU)) (Zb (eC (.str dY)) (Zb (eC (.str aR)) (Zg))))))))))))) (e2 gW (e2 jM (Za 0) (eC (.int 16))) (eC (.int 11)))) [Ya (.int c),Ya (.ref s),Yj] M= .nx [Ya (.int c),Ya (.ref s),Ya (.str w0)] M1:=Zr (Zj (jh (Zo rfl (Zo rfl (Zo rfl (Zo rfl (Zo rfl (Zo rfl (Zo rfl (Zo rfl (Zo rfl (Zo rfl (Zo rfl rfl))))))))))) rfl) (Zj (Zj rfl rfl (G4 (by decide))) rfl (yh (by decide))) e0);have b2:∃b,eO (e2 aN (e2 gW (e2 jM (Za 0) (eC (.int 176))) (eC (.int 4))) (eC (.int 1))) (e2 jN (aG bx (Zb (Za 1) (Zg))) (eC (.int 12))) [Ya (.int c),Ya (.ref s),Ya (.str w0)] M1= .ok (.bl b) M1:=by
  have q:e2 aN (e2 gW (e2 jM (Za 0) (eC (.int 176))) (eC (.int 4))) (eC (.int 1)) [Ya (.int c),Ya (.ref s),Ya (.str w0)] M1= .ok (.bl (decide (c / 176 % 4=1))) M1:=Zj (Zj (Zj rfl rfl (G4 (by decide))) rfl (yh (by decide))) rfl (by simp only[aN,rJ]);by_cases h:c / 176 % 4=1
  .rw[decide_eq_true h]at q;exact⟨_,(lY q).trans (Zj (cQ rfl (kO K1)) rfl (Ak _ _))⟩
  .rw[decide_eq_false h]at q;exact⟨_,oR q⟩
 obtain⟨w1,hw1,s2⟩:∃w1∈qQ,aK (eO (e2 aN (e2 gW (e2 jM (Za 0) (eC (.int 176))) (eC (.int 4))) (eC (.int 1))) (e2 jN (aG bx (Zb (Za 1) (Zg))) (eC (.int 12)))) (aJ 2 (eC (.str aM))) (aY) [Ya (.int c),Ya (.ref s),Ya (.str w0)] M1= .nx [Ya (.int c),Ya (.ref s),Ya (.str w1)] M1:=by
  obtain⟨b,hb⟩:=b2;cases b with
  |false=>exact⟨w0,hw0,Zq hb⟩|true=>exact⟨aM,by decide,(cP hb).trans (Zr rfl)⟩
 have b3:∃b,dz (e2 aN (e2 gW (Za 0) (eC (.int 16))) (eC (.int 15))) (bf uH (Zb (Za 1) (Zb (Za 2) (Zg)))) [Ya (.int c),Ya (.ref s),Ya (.str w1)] M1= .ok (.bl b) M1:=by
  have q:e2 aN (e2 gW (Za 0) (eC (.int 16))) (eC (.int 15)) [Ya (.int c),Ya (.ref s),Ya (.str w1)] M1= .ok (.bl (decide (c % 16=15))) M1:=Zj (Zj rfl rfl (yh (by decide))) rfl (by simp only[aN,rJ]);by_cases h:c % 16=15
  .rw[decide_eq_true h]at q;exact⟨_,yj q⟩
  .rw[decide_eq_false h]at q;exact⟨_,(m_ q).trans (oO rfl rfl (Zrz K1 w1))⟩
 obtain⟨b,hb⟩:=b3;cases b with
 |true=>refine⟨w1,hw1,Rt.pure (G:=[MO.lst (yW.map D.str)]) (env:=[Ya (.int c),Ya (.ref s),Yj]) ?_ rfl⟩;unfold Ca;exact(Ze s1).trans ((Ze s2).trans (iK ((cP hb).trans (cF rfl))))|false=>
  have q:=ZwF K1 (env:=[Ya (.int c),Ya (.ref s),Ya (.str w1)]) (i:=1) rfl;cases ts with
  | nil=>
   obtain⟨w2,h2,e2'⟩:=ZlE (l:=[Cu,aM]) (i:=c / 16 % 2) (M:=M1++[MO.lst []]) (by omega) (by show _<(2:Int);omega);refine⟨w2,?_,Rt.pure (G:=[MO.lst (yW.map D.str)]++[MO.lst []]++[MO.lst [.str Cu,.str aM]]) (env:=[Ya (.int c),Ya (.ref s),Yj]) ?_ rfl⟩
   .simp only[Ym,ig,or_false]at h2 ⊢;rcases h2 with h|h<;>simp[h]
   .unfold Ca;rw[←Yy,←Yy];exact(Ze s1).trans ((Ze s2).trans ((Ze (Zq hb)).trans (iK ((cP q).trans (cF (Zj (jh (Zo rfl (Zo rfl rfl)) rfl) (Zj (Zj rfl rfl (G4 (by decide))) rfl (yh (by decide))) e2'))))))
  | cons t ts=>
   have q5:e2 aN (e2 Zz (Za 1) (e1 gH (eC (.int 1)))) (eC (.str aM)) [Ya (.int c),Ya (.ref s),Ya (.str w1)] (M1++[MO.lst []])= .ok (.bl (decide (t=aM))) (M1++[MO.lst []]):=Zj (Lx (Zv K1 _) rfl) rfl fQ;by_cases h:t=aM
   .rw[decide_eq_true h]at q5;refine⟨aQ,by decide,Rt.pure (G:=[MO.lst (yW.map D.str)]++[MO.lst []]) (env:=[Ya (.int c),Ya (.ref s),Yj]) ?_ rfl⟩;unfold Ca;rw[←Yy];exact(Ze s1).trans ((Ze s2).trans ((Ze (Zq hb)).trans ((Ze (Zq q)).trans (iK ((cP q5).trans (cF rfl))))))
   .rw[decide_eq_false h]at q5;refine⟨aR,by decide,Rt.pure (G:=[MO.lst (yW.map D.str)]++[MO.lst []]) (env:=[Ya (.int c),Ya (.ref s),Yj]) ?_ rfl⟩;unfold Ca;rw[←Yy];exact(Ze s1).trans ((Ze s2).trans ((Ze (Zq hb)).trans ((Ze (Zq q)).trans ((Ze (Zq q5)).trans (cF rfl)))))
noncomputable def wd(k:Pf):List Nat:=if k.h=aM then(if k.cl=[]then aM else aQ)else k.h
structure Bd(k:Pf):Prop where
 hw:(k.h=aM/\k.cl.length<=1)\/(k.h=dY/\k.cl=[])
 hd:∃d,k.hd=[d]
def Vd(fs:List Pf):Prop:=∃gs k,fs=gs++[k]/\(k.h=eY/\k.cl=[])/\∀j∈gs,Bd j
noncomputable abbrev gB(fs:List Pf):List (List Nat):=fs.dropLast.map wd
theorem ZpX:Vd [⟨eY,[],[],[]⟩]:=⟨[],_,rfl,⟨rfl,rfl⟩,(λj hj=>nomatch hj)⟩
theorem Vd.two{k k2:Pf}{fs:List Pf}(h:Vd (k::k2::fs)):Bd k/\Vd (k2::fs):=by
 obtain⟨gs,j,e,q,b⟩:=h;cases gs with
 |nil=>exact absurd (congrArg tU e) (by simp)|cons a gs=>obtain⟨e1,e2⟩:=iY e;exact⟨e1▸b a Yg,gs,j,e2,q,λi hi=>b i (Ye _ hi)⟩
theorem Vd.one{k:Pf}(h:Vd [k]):k.h=eY/\k.cl=[]:=by
 obtain⟨gs,j,e,q,_⟩:=h;cases gs with
 |nil=>rw[(iY e).1];exact q|cons a gs=>exact absurd (congrArg tU e) (by simp)
theorem Vd.push{k:Pf}{fs:List Pf}(h:Vd fs)(b:Bd k):Vd (k::fs):=by obtain⟨gs,j,e,q,c⟩:=h;exact⟨k::gs,j,by rw[e];rfl,q,λi hi=>(Ym.mp hi).elim (λz=>z▸b) (c i)⟩
theorem Vd.swap{k k':Pf}{fs:List Pf}(h:Vd (k::fs))(e1:k'.h=k.h)(e2:k'.hd=k.hd)(e3:k'.cl=k.cl):Vd (k'::fs):=by
 cases fs with
 |nil=>exact⟨[],k',rfl,⟨e1.trans h.one.1,e3.trans h.one.2⟩,(λj hj=>nomatch hj)⟩|cons k2 fs=>obtain⟨b,v⟩:=h.two;exact v.push ⟨by rw[e1,e3];exact b.hw,by rw[e2];exact b.hd⟩
theorem uQ{k k2:Pf}{fs:List Pf}:gB (k::k2::fs)=wd k::gB (k2::fs):=rfl
theorem Lz{fs:List Pf}(h:fs≠[]):(gB fs).length+1=fs.length:=by rw[Yw,Xu];have:=OJ.mpr h;omega
theorem ZtB:nR w=decide (w∈[aM,dY]):=by
 unfold nR;by_cases h:w=aM
 .subst h;decide +kernel
 by_cases h2:w=dY
 .subst h2;decide +kernel
 rw[decide_eq_false (by simp[h,h2])];show(dX w [(aM,2),(dY,1)]).isSome=false;simp[dX,bT h,bT h2,h,h2]
theorem LC{fs:List Pf}(v:Vd fs)(l:Lt n fs)(hn:n<1000)(hw:w∈qQ):
  match fU (aO w m) fs with
  |some gs=>g8 (gB fs) w=true/\Vd gs/\gB gs=g_ (gB fs) w|none=>g8 (gB fs) w=false:=by
 cases fs with
 |nil=>exact absurd rfl l.ne|cons k fs=>
  show match stepK (aO w m) k fs with
   |some gs=>_|none=>_
  have hk:=l.ea k Yg;have sl:=Lz (fs:=k::fs) (by simp);rw[Yk]at sl;unfold stepK;rw[qR,ZtB];by_cases h1:w∈[aM,dY]
  .rw[if_pos (decide_eq_true h1)];have ns:w≠cU/\w∉[aQ,aR]:=by
    simp only[Ym,ig,or_false]at h1;rcases h1 with h|h<;>(rw[h];decide)
   have er:(aO w m).tl=[.tup [.int (m:Int)]]:=by unfold aO;rw[if_neg ns.1,if_neg ns.2];rfl
   have hm:g8 (gB (k::fs)) w=decide ((gB (k::fs)).length<12):=if_pos h1;have hs:g_ (gB (k::fs)) w=w::gB (k::fs):=if_pos h1;by_cases h:fs.length+1<=12
   .rw[if_pos h,hm,hs];refine⟨decide_eq_true (by omega),v.push ⟨?_,_,er⟩,?_⟩
    .simp only[Ym,ig,or_false]at h1;rcases h1 with h|h
     .exact .inl ⟨h,d8 _⟩
     .exact .inr ⟨h,rfl⟩
    .rw[uQ];congr 1;unfold wd;dsimp only;split
     .rename_i z;rw[if_pos rfl];exact z.symm
     .rfl
   .rw[if_neg h,hm];exact decide_eq_false (by omega)
  rw[if_neg (by rw[decide_eq_false h1];decide)];by_cases h2:w=aQ
  .rw [if_pos h2];have hm:g8 (gB (k::fs)) w=U4 (gB (k::fs)):=by unfold g8;rw[if_neg h1,if_pos h2]
   have hs:g_ (gB (k::fs)) w=aQ::(gB (k::fs)).tail:=by unfold g_;rw[if_neg h1,if_pos h2]
   rw[hm,hs];cases fs with
   |nil=>rw[if_neg (by rw[v.one.1];exactλz=>absurd z.1 (by decide))];rfl|cons k2 fs=>
    obtain⟨b,v2⟩:=v.two;by_cases h:k.h=aM/\k.cl=[]
    .rw[if_pos h];refine⟨?_,v2.push ⟨.inl ⟨h.1,Yo _⟩,b.hd⟩,?_⟩
     .rw[uQ];show decide (wd k=aM)=true;unfold wd;rw[if_pos h.1,if_pos h.2];rfl
     .rw[uQ,uQ,XQ];congr 1;unfold wd;dsimp only;rw[if_pos h.1,if_neg (by simp)]
    .rw[if_neg h,uQ];show decide (wd k=aM)=false;unfold wd;by_cases hh:k.h=aM
     .rw[if_pos hh,if_neg (λz=>h ⟨hh,z⟩)];decide
     .rw[if_neg hh];exact decide_eq_false hh
  rw[if_neg h2];by_cases h3:w=aR
  .rw [if_pos h3];have hm:g8 (gB (k::fs)) w=U5 (gB (k::fs)):=by unfold g8;rw[if_neg h1,if_neg h2,if_pos h3]
   have hs:g_ (gB (k::fs)) w=(gB (k::fs)).tail:=by unfold g_;rw[if_neg h1,if_neg h2,if_pos h3]
   rw[hm,hs];cases fs with
   |nil=>rfl|cons k2 fs=>
    obtain⟨b,v2⟩:=v.two;have h2k:=l.ea k2 (Ye _ Yg);dsimp only;have nf:o9 k.h=((k.cl.length+1:Nat):Int)↔wd k≠aM:=by
     rcases b.hw with⟨hw,hc⟩|⟨hw,hc⟩
     .unfold wd;rw[if_pos hw,hw,show o9 aM=2 by decide +kernel];cases hcl:k.cl with
      |nil=>simp|cons a r=>
       have:r=[]:=by rw[hcl,Yk]at hc;exact Xo.mp (by omega)
       subst this;simp
     .unfold wd;rw[if_neg (by rw[hw];decide),hw,hc,show o9 dY=1 by decide +kernel];simp
    by_cases h:wd k=aM
    .rw[if_neg (λz=>absurd h (nf.mp z.1)),uQ];show(!decide (wd k=aM))=false;rw[decide_eq_true h];rfl
    .rw[if_pos ⟨nf.mpr h,hk.2.1,j5 hk.2.2 (by decide),j5 h2k.1 hn⟩];refine⟨?_,v2.swap rfl rfl rfl,?_⟩
     .rw[uQ];show(!decide (wd k=aM))=true;rw[decide_eq_false h];rfl
     .rw[uQ,XQ];cases fs<;>rfl
  rw[if_neg h3,if_pos (j5 hk.1 hn)];refine⟨by unfold g8;rw[if_neg h1,if_neg h2,if_neg h3],v.swap rfl rfl rfl,?_⟩;rw[show g_ (gB (k::fs)) w=gB (k::fs)by unfold g_;rw[if_neg h1,if_neg h2,if_neg h3]];cases fs<;>rfl
theorem U7{c:E3}{body:S3}{e:Zx}{M M1 M':Store}(h:c env M= .ok (.bl true) M1)(h':body env M1= .nx e M'):jw c body (n+1) env M=jw c body n e M':=by rw[RK,h];simp only[h']
theorem CK{c:E3}{body:S3}{M M1:Store}(h:c env M= .ok (.bl false) M1):jw c body (n+1) env M= .nx env M1:=by rw[RK,h]
theorem ZtQ{f:E3}{g:G3}{env':Zx}{M M1:Store}(h:f env M= .ok d M1)(hg:g d env=Ya env'):Bc f g env M= .nx env' M1:=by simp only[Bc,h,hg]
theorem ZsF{xs:List α}{a b:Nat}(ha:a<=xs.length)(hb:b<=xs.length):cutD xs (Ya (a:Int)) (Ya (b:Int))=(xs.drop a).take (b-a):=by
 have e:∀d c:Nat,c<=xs.length->aA xs.length d (Ya (c:Int))=c:=λd c hc=>by show(if(c:Int)<0 then((c:Int)+(xs.length:Int)).toNat else ir (c:Int).toNat xs.length)=c;rw[if_neg (by omega)];rw[z6];exact xK hc
 unfold cutD;rw[e _ a ha,e _ b hb]
theorem ZpW{xs:List α}{b:Nat}(hb:b<=xs.length):cutD xs Yj (Ya (b:Int))=xs.take b:=by
 have e:aA xs.length xs.length (Ya (b:Int))=b:=by show(if(b:Int)<0 then((b:Int)+(xs.length:Int)).toNat else ir (b:Int).toNat xs.length)=b;rw[if_neg (by omega)];rw[z6];exact xK hb
 have e0:aA xs.length 0 Yj=0:=rfl;unfold cutD;rw[e,e0,DN,Nat.sub_zero]
def Cd(d:D):Prop:=∃h tl,d= .tup (.str h::tl)/\(h∉[aM,dY]\/1<tl.length)
noncomputable def hdT(k:Pf):D:=.tup (.str k.h::k.hd)
noncomputable def dZ(k:Pf):List D:=match k.cl with
 |[]=>[]|c::_=>c++[.str aQ]
noncomputable abbrev fC:E3:=dz (e1 (m9 .str) (e2 Zz (Za 0) (Za 1))) (dz (e2 Be (e2 Zz (e2 Zz (Za 0) (Za 1)) (eC (.int 0))) (b_ (Zb (eC (.str aM)) (Zb (eC (.str dY)) (Zg))))) (e2 jo (aG bx (Zb (e2 Zz (Za 0) (Za 1)) (Zg))) (eC (.int 2))))
noncomputable abbrev fB:S3:=Zw (aK (e2 p8 (e2 Zz (Za 0) (Za 1)) (eC (.str aQ))) (aJ 2 (Za 1)) (aY)) (aJ 1 (e2 oM (Za 1) (eC (.int 1))))
noncomputable abbrev fE(n:Nat)(gG cut:Int):Zx:=[Ya (.ref n),Ya (.int gG),Ya (.int cut),Yj,Yj,Yj]
variable{P Q:List D}
section
variable {n:Nat} {cut:Int} {xs:List D}
theorem yX(h:S[n]?=Ya (.lst xs))(hd:dW xs i=Ya d):e2 Zz (Za 0) (Za 1) (fE n i cut) S= .ok d S:=Zj rfl rfl (jy h hd)
noncomputable abbrev qT:Store:=[MO.lst [.str aM,.str dY]]
theorem f_tup{h:List Nat}{tl:List D}(hn:S[n]?=Ya (.lst xs))(hd:dW xs i=Ya (.tup (.str h::tl))):fC (fE n i cut) S= .ok (.bl (!decide (h∈[aM,dY])|| decide (1<tl.length))) (S++qT):=by
 refine(m_ (M1:=S) (eU (yX hn hd) rfl)).trans ?_;have hn1:(S++qT)[n]?=Ya (.lst xs):=Zv hn _;have q:e2 Be (e2 Zz (e2 Zz (Za 0) (Za 1)) (eC (.int 0))) (b_ (Zb (eC (.str aM)) (Zb (eC (.str dY)) (Zg)))) (fE n i cut) S= .ok (.bl (!decide (h∈[aM,dY]))) (S++qT):=Zj (Zj (yX hn hd) rfl (Az (iy _ 0))) (jh (Zo rfl (Zo rfl rfl)) rfl) (ZsB (l:=[aM,dY]) (Zy _ _ _));by_cases hh:h∈[aM,dY]
 .rw[decide_eq_true hh]at q ⊢;rw[m_ q];refine Zj (cQ (yX hn1 hd) rfl) rfl ?_;rw[pN];show R3.ok (D.bl (decide ((2:Int)<((tl.length+1:Nat):Int)))) _=_;by_cases ht:1<tl.length
  .rw[decide_eq_true ht,decide_eq_true (by omega)];rfl
  .rw[decide_eq_false ht,decide_eq_false (by omega)];rfl
 .rw[decide_eq_false hh]at q ⊢;exact yj q
theorem LK:dW (P++d::Q) ((P.length:Nat):Int)=Ya d:=by rw[iy];simp
theorem LQ{M:Store}{P Q:List D}:∀(R:List D) (W:Store) (f:Nat),xs=P++(R.reverse++Q)->M[n]?=Ya (.lst xs)->(∀d∈R,Cd d)->∃W',jw fC fB (R.length+f) (fE n ((P.length:Int)+R.length-1) cut) (M++W)=jw fC fB f (fE n ((P.length:Int)-1) cut) (M++W')
 |[],W,f,_,_,_=>⟨W,by simp⟩|d::R,W,f,e,hn,hR=>by
  obtain⟨h,tl,ed,hc⟩:=hR d Yg;have e':xs=P++(R.reverse++(d::Q)):=by rw[e];simp
  obtain⟨W',q⟩:=LQ (P:=P) (Q:=d::Q) R (W++qT) f e' hn (λx hx=>hR x (Ye _ hx));refine⟨W',?_⟩;have hi:((P.length:Int)+((d::R).length:Nat)-1)=(((P++R.reverse).length:Nat):Int):=by simp;omega
  have hd:dW xs ((P.length:Int)+((d::R).length:Nat)-1)=Ya (.tup (.str h::tl)):=by rw[hi,e',←Yy,LK,ed]
  have yZ:(M++W)[n]?=Ya (.lst xs):=Zv hn _;have AcQ:(M++W++qT)[n]?=Ya (.lst xs):=Zv yZ _;have c:=f_tup (cut:=cut) yZ hd;have ct:(!decide (h∈[aM,dY])|| decide (1<tl.length))=true:=by
   rcases hc with z|z
   .rw[decide_eq_false z];rfl
   .rw[decide_eq_true z];simp
  rw[ct]at c;have b:fB (fE n ((P.length:Int)+((d::R).length:Nat)-1) cut) (M++W++qT)= .nx (fE n ((P.length:Int)+R.length-1) cut) (M++W++qT):=by refine(Ze (Zq (M':=M++W++qT) (Zj (yX AcQ hd) rfl rfl))).trans ?_;refine(Zr (Zj rfl rfl (Ro _ _))).trans ?_;rw[show(P.length:Int)+((d::R).length:Nat)-1-1=(P.length:Int)+R.length-1 by rw[Yk];omega]
  rw[show(d::R).length+f=R.length+f+1 by rw[Yk];omega,U7 c b,Yy];exact q
theorem Zwj{W:Store}{f:Nat}(e:xs=P++ .str aQ::Q)(hn:M[n]?=Ya (.lst xs)):jw fC fB (f+1) (fE n (P.length:Int) cut) (M++W)=jw fC fB f (fE n ((P.length:Int)-1) (P.length:Int)) (M++W):=by
 have yZ:(M++W)[n]?=Ya (.lst xs):=Zv hn _;have hd:dW xs ((P.length:Nat):Int)=Ya (.str aQ):=by rw[e,LK]
 refine U7 (M1:=M++W) (yj (eU (yX yZ hd) rfl)) ?_;refine(Ze ((cP (M':=M++W) (Zj (yX yZ hd) rfl rfl)).trans (Zr rfl))).trans ?_;exact Zr (Zj rfl rfl (Ro _ _))
theorem ZqX{W:Store}{f:Nat}{k:Pf}(b:Bd k)(e:xs=P++hdT k::Q)(hn:M[n]?=Ya (.lst xs)):jw fC fB (f+1) (fE n (P.length:Int) cut) (M++W)= .nx (fE n (P.length:Int) cut) (M++(W++qT)):=by
 have yZ:(M++W)[n]?=Ya (.lst xs):=Zv hn _;have hd:dW xs ((P.length:Nat):Int)=Ya (hdT k):=by rw[e,LK]
 have c:=f_tup (cut:=cut) yZ hd;obtain⟨d,h1⟩:=b.hd;have hw:k.h∈[aM,dY]:=by rcases b.hw with z|z<;>(rw[z.1];decide)
 rw[decide_eq_true hw,h1]at c;rw[←Yy];exact CK c
end
theorem ZlI{f:E3}{M M1:Store}(h:f env M= .ok (.int i) M1):bQ f env M= .ok (Ya i) M1:=by simp only[bQ,h,R3.bind]
variable{A:List D}
theorem ZoX{B C:List D}{a b:Nat}(ha:a=A.length)(hb:b=A.length+B.length):((A++(B++C)).drop a).take (b-a)=B:=by subst ha hb;rw[XM,XX,O9]
theorem U8{n a b:Nat}{B C:List D}{fa fb:E3}(hv:Za 0 env S= .ok (.ref n) S)(hn:S[n]?=Ya (.lst (A++(B++C))))(ha:fa env S= .ok (.int (a:Int)) S)(hb:fb env S= .ok (.int (b:Int)) S)(ea:a=A.length)(eb:b=A.length+B.length):
  aG gY (Zb (dD (Za 0) (bQ fa) (bQ fb)) (Zg)) env S= .ok (.tup B) (S++[.lst B]):=by
 have z:cutD (A++(B++C)) (Ya (a:Int)) (Ya (b:Int))=B:=by rw[ZsF (by rw[ea];simp) (by rw[eb];simp),ZoX ea eb]
 exact cQ ((Cv hv (ZlI ha) (ZlI hb) hn).trans (by rw[z])) (Ay (Zy _ _ _))
noncomputable abbrev CN(j:Int):E3:=e2 oM (aG bx (Zb (Za 0) (Zg))) (eC (.int j))
theorem U9{j:Int}(hv:Za 0 env S= .ok (.ref n) S)(hn:S[n]?=Ya (.lst xs)):CN j env S= .ok (.int ((xs.length:Int)-j)) S:=Zj (cQ hv (kO hn)) rfl (Ro _ _)
theorem Zo2{k:Pf}(b:Bd k)(he:wd k≠aM)(cc:∀d∈k.cur,Cd d)(cl:∀l∈k.cl,∀d∈l,Cd d)(hz:(A++hdT k::(dZ k++k.cur++[.str aR])).length<=5000)(hn:M[n]?=Ya (.lst (A++hdT k::(dZ k++k.cur++[.str aR])))):
  ∃n' G,GF [.ref n] M= .ok (.ref n') (M++G)/\(M++G)[n']?=Ya (.lst (A++[k.whole]))/\M.length<=n':=by
 generalize hxs:A++hdT k::(dZ k++k.cur++[.str aR])=xs at hz hn;have hl:xs.length=A.length+1+(dZ k).length+k.cur.length+1:=by rw[←hxs];simp;omega
 obtain⟨d,hd⟩:=b.hd;obtain⟨cut,W,hloop,Ni⟩:∃(cut:Int) (W:Store),ye fC fB (fE n ((xs.length:Int)-2) ((xs.length:Int)-1)) M= .nx (fE n (A.length:Int) cut) (M++W)/\(k.h=aM->∃c,k.cl=[c]/\cut=((A.length+1+c.length:Nat):Int)):=by
  have fuel:∀a:Nat,a<=5000->∃f,1000000=a+f/\900000<=f:=λa ha=>⟨1000000-a,by omega,by omega⟩;cases hcl:k.cl with
  | nil=>
   have hm:dZ k=[]:=by unfold dZ;rw[hcl]
   rw[hm,mQ]at hxs;rw[hm]at hl;obtain⟨f,e1,e2⟩:=fuel k.cur.reverse.length (by simp at hl ⊢;omega);obtain⟨W',q⟩:=LQ (n:=n) (cut:=(xs.length:Int)-1) (M:=M) (P:=A++[hdT k]) (Q:=[.str aR]) k.cur.reverse [] f (by rw[Oz,←hxs];simp) hn (λx hx=>cc x (O5.mp hx));refine⟨(xs.length:Int)-1,W'++qT,?_,λhw=>?_⟩
   .unfold ye;rw[iD]at q;rw[e1,show(xs.length:Int)-2=(((A++[hdT k]).length:Nat):Int)+(k.cur.reverse.length:Nat)-1 by rw[hl];simp;omega,q];obtain⟨f2,rfl⟩:∃f2,f=f2+1:=⟨f-1,by omega⟩;rw[show(((A++[hdT k]).length:Nat):Int)-1=(A.length:Int)by simp];exact ZqX b (by rw[←hxs]) hn
   .exact absurd (show wd k=aM by unfold wd;rw[if_pos hw,if_pos hcl]) he
  | cons c r=>
   have hr:r=[]:=by
    rcases b.hw with z|z
    .have:=z.2;rw[hcl,Yk]at this;exact Xo.mp (by omega)
    .rw[z.2]at hcl;cases hcl
   subst hr;have hm:dZ k=c++[.str aQ]:=by unfold dZ;rw[hcl]
   rw[hm]at hxs hl;have hl':xs.length=A.length+1+(c.length+1)+k.cur.length+1:=by rw[hl];simp
   obtain⟨f,e1,e2⟩:=fuel k.cur.reverse.length (by simp;omega);obtain⟨W1,q1⟩:=LQ (n:=n) (cut:=(xs.length:Int)-1) (M:=M) (P:=A++hdT k::(c++[.str aQ])) (Q:=[.str aR]) k.cur.reverse [] f (by rw[Oz,←hxs];simp) hn (λx hx=>cc x (O5.mp hx));obtain⟨f2,rfl⟩:∃f2,f=f2+1:=⟨f-1,by omega⟩;have q2:=Zwj (n:=n) (cut:=(xs.length:Int)-1) (M:=M) (W:=W1) (P:=A++hdT k::c) (Q:=k.cur++[.str aR]) (f:=f2) (by rw[←hxs];simp) hn;obtain⟨f3,e3⟩:∃f3,f2=c.reverse.length+(f3+1):=⟨f2-c.length-1,by simp;omega⟩;obtain⟨W2,q3⟩:=LQ (n:=n) (cut:=(((A++hdT k::c).length:Nat):Int)) (M:=M) (P:=A++[hdT k]) (Q:=.str aQ::(k.cur++[.str aR])) c.reverse W1 (f3+1) (by rw[Oz,←hxs];simp) hn (λx hx=>cl c (by rw[hcl];exact Yg) x (O5.mp hx));have q4:=ZqX (n:=n) (cut:=(((A++hdT k::c).length:Nat):Int)) (M:=M) (W:=W2) (P:=A) (Q:=c++ .str aQ::(k.cur++[.str aR])) (f:=f3) b (by rw[←hxs];simp) hn;refine⟨(((A++hdT k::c).length:Nat):Int),W2++qT,?_,λ_=>⟨c,rfl,by simp;omega⟩⟩;unfold ye;rw[iD]at q1;rw[e1,show(xs.length:Int)-2=(((A++hdT k::(c++[.str aQ])).length:Nat):Int)+(k.cur.reverse.length:Nat)-1 by rw[hl'];simp;omega,q1];rw[show(((A++hdT k::(c++[.str aQ])).length:Nat):Int)-1=(((A++hdT k::c).length:Nat):Int)by simp;omega,q2,e3];rw[show(((A++hdT k::c).length:Nat):Int)-1=(((A++[hdT k]).length:Nat):Int)+(c.reverse.length:Nat)-1 by simp;omega,q3];rw[show(((A++[hdT k]).length:Nat):Int)-1=(A.length:Int)by simp];exact q4
 let S:=M++W
 have hS:S[n]?=Ya (.lst xs):=Zv hn _
 let E:Option D->Zx:=λv=>[Ya (.ref n),Ya (.int (A.length:Int)),Ya (.int cut),Ya (.str k.h),Ya d,v]
 have s1:aJ 1 (CN 2) [Ya (.ref n),Yj,Yj,Yj,Yj,Yj] M= .nx [Ya (.ref n),Ya (.int ((xs.length:Int)-2)),Yj,Yj,Yj,Yj] M:=Zr (U9 rfl hn);have s2:aJ 2 (CN 1) [Ya (.ref n),Ya (.int ((xs.length:Int)-2)),Yj,Yj,Yj,Yj] M= .nx (fE n ((xs.length:Int)-2) ((xs.length:Int)-1)) M:=Zr (U9 rfl hn);have s4:Bc (e2 Zz (Za 0) (Za 1)) (jc [3,4]) (fE n (A.length:Int) cut) S= .nx (E Yj) S:=ZtQ (d:=hdT k) (yX hS (by rw[←hxs];exact LK)) (by unfold hdT;rw[hd];rfl);have at1:∀v S',e2 cJ (Za 1) (eC (.int 1)) (E v) S'= .ok (.int ((A.length+1:Nat):Int)) S':=λv S'=>Zj rfl rfl (Aj _ _);have ln1:∀{v S'},S'[n]?=Ya (.lst xs)->CN 1 (E v) S'= .ok (.int ((xs.length-1:Nat):Int)) S':=λ{v S'} h=>(U9 rfl h).trans (by rw[show(xs.length:Int)-1=((xs.length-1:Nat):Int)by rw[hl];omega]);have t5:=U8 (n:=n) (a:=A.length+1) (b:=xs.length-1) (A:=A++[hdT k]) (B:=dZ k++k.cur) (C:=[.str aR]) (env:=E Yj) (S:=S) rfl (by rw[hS,←hxs];simp) (at1 _ _) (ln1 hS) (by simp) (by rw[hl];simp;omega);have s5:aJ 5 (jb (Zb (Za 3) (Zb (Za 4) (Zb (aG gY (Zb (dD (Za 0) (bQ (e2 cJ (Za 1) (eC (.int 1)))) (bQ (CN 1))) (Zg))) (Zg))))) (E Yj) S= .nx (E (Ya (.tup [.str k.h,d,.tup (dZ k++k.cur)]))) (S++[.lst (dZ k++k.cur)]):=Zr (pP (Zo rfl (Zo rfl (Zo t5 rfl))) rfl);obtain⟨W2,s6⟩:∃W2,aK (e2 p8 (Za 3) (eC (.str aM))) (aJ 5 (jb (Zb (Za 3) (Zb (Za 4) (Zb (aG gY (Zb (dD (Za 0) (bQ (e2 cJ (Za 1) (eC (.int 1)))) (bQ (Za 2))) (Zg))) (Zb (aG gY (Zb (dD (Za 0) (bQ (e2 cJ (Za 2) (eC (.int 1)))) (bQ (CN 1))) (Zg))) (Zg))))))) (aY) (E (Ya (.tup [.str k.h,d,.tup (dZ k++k.cur)]))) (S++[.lst (dZ k++k.cur)])= .nx (E (Ya k.whole)) (S++W2):=by
  by_cases hw:k.h=aM
  .obtain⟨c,hcl,ec⟩:=Ni hw;have hm:dZ k=c++[.str aQ]:=by unfold dZ;rw[hcl]
   rw[hm]at hxs hl
   let S1:=S++[MO.lst (dZ k++k.cur)]
   have hS1:S1[n]?=Ya (.lst xs):=Zv hS _;have t1:=U8 (n:=n) (a:=A.length+1) (b:=A.length+1+c.length) (A:=A++[hdT k]) (B:=c) (C:=.str aQ::(k.cur++[.str aR])) (env:=E (Ya (.tup [.str k.h,d,.tup (dZ k++k.cur)]))) (S:=S1) rfl (by rw[hS1,←hxs];simp) (at1 _ _) (fb:=Za 2) (by show R3.ok (D.int cut) S1=_;rw[ec]) (by simp) (by simp);have t2:=U8 (n:=n) (a:=A.length+1+c.length+1) (b:=xs.length-1) (A:=A++hdT k::(c++[.str aQ])) (B:=k.cur) (C:=[.str aR]) (env:=E (Ya (.tup [.str k.h,d,.tup (dZ k++k.cur)]))) (S:=S1++[.lst c]) (fa:=e2 cJ (Za 2) (eC (.int 1))) rfl (by rw[Zv hS1,←hxs];simp) (Zj (a:=.int cut) rfl rfl ((Aj _ _).trans (by rw[ec];rfl))) (ln1 (Zv hS1 _)) (by simp;omega) (by rw[hl];simp;omega);refine⟨[.lst (dZ k++k.cur)]++[.lst c]++[.lst k.cur],?_⟩;refine(cP (M':=S1) (Zj rfl rfl (show p8 (.str k.h) (.str aM) S1= .ok (.bl true) S1 by show R3.ok (D.bl (decide (k.h=aM))) S1=_;rw[decide_eq_true hw]))).trans ?_;refine(Zr (pP (Zo rfl (Zo rfl (Zo t1 (Zo t2 rfl)))) rfl)).trans ?_;have ew:k.whole= .tup [.str k.h,d,.tup c,.tup k.cur]:=by unfold Pf.whole;rw[hd,hcl];rfl
   rw[ew,←Yy,←Yy];rfl
  .refine⟨[.lst (dZ k++k.cur)],(Zq (Zj rfl rfl (show p8 (.str k.h) (.str aM) _= .ok (.bl false) _ by show R3.ok (D.bl (decide (k.h=aM))) _=_;rw[decide_eq_false hw]))).trans ?_⟩;have hcl:k.cl=[]:=b.hw.elim (λz=>absurd z.1 hw) (·.2);have ew:k.whole= .tup [.str k.h,d,.tup k.cur]:=by unfold Pf.whole;rw[hd,hcl];rfl
   have hm:dZ k=[]:=by unfold dZ;rw[hcl]
   rw[ew,hm];rfl
 let S2:=S++W2
 have hS2:S2[n]?=Ya (.lst xs):=Zv hS _;have sl:dD (Za 0) (gJ) (bQ (Za 1)) (E (Ya k.whole)) S2= .ok (.ref S2.length) (S2++[.lst A]):=by refine(Cv (a:=Yj) (b:=Ya ((A.length:Nat):Int)) rfl rfl rfl hS2).trans ?_;rw[ZpW (by rw[hl];omega),←hxs,O9]
 refine⟨(S2++[MO.lst A]++[MO.lst [k.whole]]).length,W++W2++[.lst A]++[.lst [k.whole]]++[.lst (A++[k.whole])],(kJ (M':=M++(W++W2++[.lst A]++[.lst [k.whole]]++[.lst (A++[k.whole])])) (env:=[Ya (.ref n),Yj,Yj,Yj,Yj,Yj]) ?_).trans (Lr (by simp[S2,S])),?_,by simp[S2,S]⟩
 .unfold Ub;refine(Ze s1).trans ((Ze s2).trans ((Ze hloop).trans ((Ze s4).trans ((Ze s5).trans ((Ze s6).trans ?_)))));rw[show M++(W++W2++[MO.lst A]++[.lst [k.whole]]++[.lst (A++[k.whole])])=S2++[.lst A]++[.lst [k.whole]]++[.lst (A++[k.whole])]by simp[S2,S]];exact cF (Zj sl (jh (Zo rfl rfl) rfl) (Lk (x:=A) (y:=[k.whole]) (Zv (Zy _ _ _) _) (Zy _ _ _) (by show A.length+1<=_;omega)))
 .rw[show M++(W++W2++[MO.lst A]++[.lst [k.whole]]++[.lst (A++[k.whole])])=S2++[.lst A]++[.lst [k.whole]]++[.lst (A++[k.whole])]by simp[S2,S],Zy]
noncomputable def gj:List Pf->List D
 |[]=>[]|[k]=>k.cur|k::k2::fs=>gj (k2::fs)++hdT k::(dZ k++k.cur)
def wH(fs:List Pf):Prop:=∀k∈fs,(∀d∈k.cur,Cd d)/\∀l∈k.cl,∀d∈l,Cd d
noncomputable def thing(r:Rw):D:=if r.h∈[aQ,aR]then .str r.h else .tup r.deed
theorem Zjw{k:Pf}{fs:List Pf}(d:D):gj ({k with cur:=k.cur++[d]}::fs)=gj (k::fs)++[d]:=by
 cases fs with
 |nil=>rfl|cons k2 fs=>show gj (k2::fs)++hdT k::(dZ k++(k.cur++[d]))=(gj (k2::fs)++hdT k::(dZ k++k.cur))++[d];simp
theorem wH.more{k:Pf}{fs:List Pf}(h:wH (k::fs))(c:Cd d):wH ({k with cur:=k.cur++[d]}::fs):=λj hj=>by
 rcases Ym.mp hj with rfl|hj
 .refine⟨λx hx=>?_,(h k Yg).2⟩;rcases gP.mp hx with hx|hx
  .exact(h k Yg).1 x hx
  .rw[Yr.mp hx];exact c
 .exact h j (Ye _ hj)
theorem Zor{fs gs:List Pf}(v:Vd fs)(c:wH fs)(hs:fU (aO w m) fs=Ya gs):
  wH gs/\(w≠aR->gj gs=gj fs++[thing (aO w m)])/\
  (w=aR->∃k k2 fs',fs=k::k2::fs'/\Bd k/\wd k≠aM/\gj gs=gj (k2::fs')++[k.whole]/\gj fs=gj (k2::fs')++hdT k::(dZ k++k.cur)):=by
 cases fs with
 |nil=>cases hs|cons k fs=>
  have hs:stepK (aO w m) k fs=Ya gs:=hs;unfold stepK at hs;rw[qR,ZtB]at hs;by_cases h1:w∈[aM,dY]
  .rw[if_pos (decide_eq_true h1)]at hs;have ns:w∉[aQ,aR]/\w≠aR:=by
    simp only[Ym,ig,or_false]at h1;rcases h1 with h|h<;>(rw[h];decide)
   split at hs
   .cases hs
    refine⟨λj hj=>?_,λ_=>?_,λz=>absurd z ns.2⟩
    .rcases Ym.mp hj with rfl|hj
     .exact⟨(λx hx=>nomatch hx),(λx hx=>nomatch hx)⟩
     .exact c j hj
    .show gj (k::fs)++D.tup (.str w::(aO w m).tl)::[]=_;unfold thing;rw[qR,if_neg ns.1,Cw,qR]
   .cases hs
  rw[if_neg (by rw[decide_eq_false h1];decide)]at hs;by_cases h2:w=aQ
  .rw [if_pos h2]at hs;split at hs
   .rename_i hc;cases hs;refine⟨λj hj=>?_,λ_=>?_,λz=>absurd (h2.symm.trans z) (by decide)⟩
    .rcases Ym.mp hj with rfl|hj
     .refine⟨(λx hx=>nomatch hx),λl hl=>?_⟩;rw[Yr.mp hl];exact(c k Yg).1
     .exact c j (Ye _ hj)
    .unfold thing;rw[qR,h2,if_pos (by decide)];cases fs with
     |nil=>exact absurd (v.one.1.symm.trans hc.1) (by decide)|cons k2 fs=>
      have hm:dZ k=[]:=by unfold dZ;rw[hc.2]
      show gj (k2::fs)++hdT k::((k.cur++[.str aQ])++[])=(gj (k2::fs)++hdT k::(dZ k++k.cur))++[.str aQ];rw[hm];simp
   .cases hs
  rw[if_neg h2]at hs;by_cases h3:w=aR
  .rw [if_pos h3]at hs;cases fs with
   |nil=>cases hs|cons k2 fs=>
    dsimp only at hs;obtain⟨b,v2⟩:=v.two;split at hs
    .rename_i hc;cases hs;have c2:wH (k2::fs):=λj hj=>c j (Ye _ hj);obtain⟨d,hd⟩:=b.hd;have cw:Cd k.whole:=by refine⟨k.h,k.hd++(k.cl++[k.cur]).map D.tup,rfl,.inr ?_⟩;rw[hd];simp
     have wn:wd k≠aM:=by
      intro z;unfold wd at z;have hn:=hc.1;by_cases hh:k.h=aM
      .rw[if_pos hh]at z;by_cases hcl:k.cl=[]
       .rw[hh,hcl,show o9 aM=2 by decide +kernel]at hn;exact absurd hn (by decide)
       .rw[if_neg hcl]at z;exact absurd z (by decide)
      .rw[if_neg hh]at z;exact hh z
     exact⟨c2.more cw,λz=>absurd h3 z,λ_=>⟨k,k2,fs,rfl,b,wn,Zjw _,rfl⟩⟩
    .cases hs
  rw[if_neg h3]at hs;split at hs
  .cases hs
   have ne:w∉[aQ,aR]:=by simp[h2,h3]
   have ct:Cd (.tup (aO w m).deed):=⟨w,(aO w m).tl,by rw[Cw,qR],.inl h1⟩;refine⟨c.more ct,λ_=>?_,λz=>absurd z h3⟩;rw[show thing (aO w m)= .tup (aO w m).deed by unfold thing;rw[qR,if_neg ne]];exact Zjw _
  .cases hs
def nT(r:Rw):Prop:=∃w m,w∈qQ/\m<10/\r=aO w m
theorem Znd(h:m<10)(M:Store):oU [.str [48+m]] M= .ok (.int (m:Int)) M:=by have q:=(Um (m:Int) (by rw[PQ];exact j6 h (by decide))).1;rw[sZ h]at q;rw[Zlw,q];exact if_pos (show 1<=640 by decide)
theorem ZpK(hw:w∈qQ)(hm:m<10)(hne:w∉[aQ,aR])(M:Store):Cg [.str (glue [32] (aO w m).words)] M= .ok (.tup (aO w m).deed) M:=by
 have ok:=(CJ hw hm).ln
 let T:=glue [32] (aO w m).words
 have hsp:lZ T [32]=(aO w m).words:=Ul 32 _ ok.ne λw hw=>(ok.fr w hw).1
 let M1:=M++[MO.lst ((aO w m).words.map D.str)]
 have s1:aJ 1 (bB iw rO (Za 0) (Zb (eC (.str [32])) (Zg))) [Ya (.str T),Yj] M= .nx [Ya (.str T),Ya (.ref M.length)] M1:=Zr (UJ rfl rfl (Zo rfl rfl) ((UL (Yp ok.le (by decide))).trans (by rw[hsp])));have h1:M1[M.length]?=Ya (.lst ((aO w m).words.map D.str)):=Zy _ _ _;by_cases hs:w=cU
 .subst hs;rw[Ly]at h1 ⊢;have e:(⟨cU,[[97]],[.num (m:Int)]⟩:Rw).words=[cU,[97],[48+m]]:=by show[cU,[97],cY (m:Int)]=_;rw[sZ hm]
  rw[e]at h1;refine Rt.pure (G:=[MO.lst ((aO cU m).words.map D.str)]) (env:=[Ya (.str T),Yj]) ?_ rfl;unfold La;refine(Ze s1).trans (iK ((cP (M':=M1) (Zj (Zj rfl rfl (jy h1 (d:=.str cU) (iy _ 0))) rfl (fQ.trans rfl))).trans ?_));exact cF (pP (Zo rfl (Zo rfl (Zo (pP (Zo (cQ (Zj rfl rfl (jy h1 (d:=.str [48+m]) (iy _ 2))) (Znd hm M1)) rfl) rfl) rfl))) rfl)
 .have er:aO w m=⟨w,[],[.num (m:Int)]⟩:=by unfold aO;rw[if_neg hs,if_neg hne]
  have e:(aO w m).words=[w,[48+m]]:=by rw[er];show[w,cY (m:Int)]=_;rw[sZ hm]
  rw[e]at h1;refine Rt.pure (G:=[MO.lst ((aO w m).words.map D.str)]) (env:=[Ya (.str T),Yj]) ?_ (Rw.below _);unfold La;refine(Ze s1).trans ((Ze (Zq (M':=M1) (Zj (Zj rfl rfl (jy h1 (d:=.str w) (iy _ 0))) rfl (fQ.trans (by rw[decide_eq_false hs]))))).trans ?_);rw[show(aO w m).deed=[.str w,.tup [.int (m:Int)]]by rw[er];rfl];exact cF (pP (Zo (Zj rfl rfl (jy h1 (d:=.str w) (iy _ 0))) (Zo (pP (Zo (cQ (Zj rfl rfl (jy h1 (d:=.str [48+m]) (iy _ 1))) (Znd hm M1)) rfl) rfl) rfl)) rfl)
noncomputable abbrev eE(l:Option Rw):D:=.str (d_ (l.map Rw.words))
structure Pre(M S:Store):Prop where
 len:M.length<=S.length
 pre:∀a,a<M.length->S[a]?=M[a]?
theorem Pre.app(p:Pre M S)(G:Store):Pre M (S++G):=⟨by rw[Yl];exact Nat.le_add_right_of_le p.len,λa ha=>by rw[Y3 (Y6 ha p.len)];exact p.pre a ha⟩
theorem Pre.set(p:Pre M S)(h:M.length<=n)(o:MO):Pre M (S.set n o):=⟨by rw[DG];exact p.len,λa ha=>by rw[Yz (by omega)];exact p.pre a ha⟩
theorem Pre.refl(M:Store):Pre M M:=⟨Yo _,λ_ _=>rfl⟩
noncomputable abbrev kB:S3:=aK (e2 rP (Za 2) (b_ (Zb (eC (.str aQ)) (Zb (eC (.str aR)) (Zg))))) (bV (bB dF d9 (Za 1) (Zb (Za 2) (Zg)))) (aK (e2 iI (Za 2) (eC (.str []))) (bV (bB dF d9 (Za 1) (Zb (bf Cg (Zb (Za 2) (Zg))) (Zg)))) (aY))
theorem U_(hw:w∈qQ)(hm:m<10):(w∈[aQ,aR]->glue [32] (aO w m).words=w)/\(w∉[aQ,aR]->glue [32] (aO w m).words∉[aQ,aR]):=by
 refine⟨λh=>?_,λh=>?_⟩
 .have hs:w≠cU:=by
   simp only[Ym,ig,or_false]at h;rcases h with z|z<;>(rw[z];decide)
  rw[show aO w m=⟨w,[],[]⟩by unfold aO;rw[if_neg hs,if_pos h]];rfl
 .have h32:32∈glue [32] (aO w m).words:=by
   by_cases hs:w=cU
   .rw[hs,Ly,show(⟨cU,[[97]],[.num (m:Int)]⟩:Rw).words=[cU,[97],cY (m:Int)]from rfl,lz];simp
   .rw[show aO w m=⟨w,[],[.num (m:Int)]⟩by unfold aO;rw[if_neg hs,if_neg h],show(⟨w,[],[.num (m:Int)]⟩:Rw).words=[w,cY (m:Int)]from rfl,lz];simp
  intro z;simp only[Ym,ig,or_false]at z;rcases z with z|z<;>(rw[z]at h32;exact absurd h32 (by decide))
theorem LR{o o':MO}(h:S[n]?=Ya o):(S.set n o')[n]?=Ya o':=by rw[jX (Yh.mp h).1]
theorem ZjL{M:Store}{kp:Nat}{it:gU}(hit:∀S,Pre M S->locked it S=true)(hk:M.length<=kp){v0 v3 v4:Option D}:∀(Ls:List (Option Rw)) (acc:List D) (S:Store) (x2:Option D),Pre M S->S[kp]?=Ya (.lst acc)->(∀r,Ya r∈Ls->nT r)->acc.length+Ls.length<=5000 ->
  ∃S' y2,cX it (dN 2) kB (Ls.map eE) [v0,Ya (.ref kp),x2,v3,v4] S= .nx [v0,Ya (.ref kp),y2,v3,v4] S'/\S'[kp]?=Ya (.lst (acc++(Ls.filterMap id).map thing))/\Pre M S'
 |[],acc,S,x2,p,h,_,_=>⟨S,x2,by show cX _ _ _ [] _ _=_;rw[ug,if_pos (hit S p)],by simpa using h,p⟩|l ::Ls,acc,S,x2,p,h,hL,hz=>by
  let E:Zx:=[v0,Ya (.ref kp),Ya (eE l),v3,v4]
  let S1:=S++[MO.lst [.str aQ,.str aR]]
  have h1:S1[kp]?=Ya (.lst acc):=Zv h _;have c1:=Lw (a:=aQ) (b:=aR) (w:=d_ (l.map Rw.words)) (env:=E) (i:=2) (M:=S) rfl;rw[Yk]at hz;have hlt:acc.length<SZ:=j5 (show acc.length<=5000 by omega) (by decide);obtain⟨S2,b,p2,h2⟩:∃S2,kB E S= .nx E S2/\Pre M S2/\S2[kp]?=Ya (.lst (acc++([l].filterMap id).map thing)):=by
   cases l with
   |none=>refine⟨S1,(pO (c1.trans (by rw[decide_eq_false (by decide)]))).trans (Zq (Zj rfl rfl (ZtK rfl))),p.app _,by simpa using h1⟩|some r=>
    obtain⟨w,m,hw,hm,rfl⟩:=hL r Yg;obtain⟨t1,t2⟩:=U_ hw hm;by_cases he:w∈[aQ,aR]
    .have c1':=c1.trans (show _=R3.ok (D.bl true) S1 by rw[decide_eq_true (by show glue [32] (aO w m).words∈_;rw[t1 he];exact he)]);refine⟨S1.set kp (.lst (acc++[eE (Ya (aO w m))])),(cP c1').trans (yO rfl h1 rfl h1 hlt),(p.app _).set hk _,?_⟩;rw[LR h1];show Ya (MO.lst (acc++[D.str (glue [32] (aO w m).words)]))=Ya (MO.lst (acc++[thing (aO w m)]));rw[t1 he];unfold thing;rw[qR,if_pos he]
    .have c1':=c1.trans (show _=R3.ok (D.bl false) S1 by rw[decide_eq_false (show¬d_ ((Ya (aO w m)).map Rw.words)∈[aQ,aR]from t2 he)]);have ok:=(CJ hw hm).ln;refine⟨S1.set kp (.lst (acc++[.tup (aO w m).deed])),(pO c1').trans ((cP (M':=S1) (Zj rfl rfl (Zw2 ok.tx))).trans (yO rfl h1 (gK rfl (show Cg [eE (Ya (aO w m))] S1= .ok (.tup (aO w m).deed) S1 from ZpK hw hm he S1)) h1 hlt)),(p.app _).set hk _,?_⟩;rw[LR h1];show _=Ya (MO.lst (acc++[thing (aO w m)]));unfold thing;rw[qR,if_neg he]
  obtain⟨S',y2,q,q1,q2⟩:=ZjL hit hk Ls _ S2 (Ya (eE l)) p2 h2 (λr hr=>hL r (Ye _ hr)) (by cases l<;>simp <;>omega);refine⟨S',y2,?_,?_,q2⟩
  .rw[Yv,uh,if_pos (hit S p)];show(match kB E S with
    | .nx e M'=>cX it (dN 2) kB (Ls.map eE) e M'|.ct e M'=>cX it (dN 2) kB (Ls.map eE) e M'|.bk e M'=>O3.nx e M'|o=>o)=_
   rw[b];exact q
  .rw[q1];cases l<;>simp
noncomputable abbrev dB:S3:=Zw (bV (bB dF d9 (Za 3) (Zb (Za 4) (Zg)))) (aK (e2 p8 (Za 4) (eC (.str aR))) (aJ 3 (bf GF (Zb (Za 3) (Zg)))) (aY))
theorem Zju(S:Store):p8 (thing (aO w m)) (.str aR) S= .ok (.bl (decide (w=aR))) S:=by
 unfold thing;rw[qR];by_cases h:w∈[aQ,aR]
 .rw[if_pos h];rfl
 .rw[if_neg h];have:w≠aR:=λz=>h (by rw[z];decide);rw[decide_eq_false this];rfl
theorem Zln{M:Store}{kp:Nat}{ts:List D}(hk:M.length<=kp){v0 v2:Option D}:∀(rs:List Rw) (fs gs:List Pf) (n f:Nat) (S:Store) (x4:Option D),Pre M S->S[kp]?=Ya (.lst ts)->S[f]?=Ya (.lst (gj fs))->M.length<=f->f≠kp->Vd fs->wH fs->Lt n fs->(gj fs).length<=n->n+rs.length<1000->(∀r∈rs,nT r)->wG rs fs=Ya gs ->
  ∃S' f' y4,cX ⟨ts,Ya kp⟩ (dN 4) dB (rs.map thing) [v0,Ya (.ref kp),v2,Ya (.ref f),x4] S= .nx [v0,Ya (.ref kp),v2,Ya (.ref f'),y4] S'/\S'[f']?=Ya (.lst (gj gs))/\Pre M S'
 |[],fs,gs,n,f,S,x4,p,hkS,hf,_,_,_,_,_,_,_,_,hr=>by
  cases hr
  exact⟨S,f,x4,by show cX _ _ _ [] _ _=_;rw[ug,if_pos (show locked ⟨ts,Ya kp⟩ S=true from decide_eq_true hkS)],hf,p⟩
 | r ::rs,fs,gs,n,f,S,x4,p,hkS,hf,hfM,hfk,v,c,l,hz,hn,hL,hr=>by
  obtain⟨w,m,hw,hm,rfl⟩:=hL r Yg;unfold wG at hr;rw[Yk]at hn;cases hs:fU (aO w m) fs with
  |none=>rw[hs]at hr;cases hr|some f1=>
   rw[hs]at hr;have hr:wG rs f1=Ya gs:=hr;have rel:=LC (m:=m) v l (by omega) hw;rw[hs]at rel;obtain⟨_,v1,_⟩:=rel;obtain⟨c1,ne,en⟩:=Zor v c hs;have l1:=l.step (CJ hw hm).tl hs
   let E:Nat->Zx:=λf=>[v0,Ya (.ref kp),v2,Ya (.ref f),Ya (thing (aO w m))]
   let S1:=S.set f (.lst (gj fs++[thing (aO w m)]))
   have hlt:(gj fs).length<SZ:=j5 (show(gj fs).length<=1000 by omega) (by decide);have a1:bV (bB dF d9 (Za 3) (Zb (Za 4) (Zg))) (E f) S= .nx (E f) S1:=yO rfl hf rfl hf hlt;have hf1:S1[f]?=Ya (.lst (gj fs++[thing (aO w m)])):=LR hf;have hk1:S1[kp]?=Ya (.lst ts):=by rw[Yz hfk];exact hkS
   have p1:Pre M S1:=p.set hfM _;obtain⟨S2,f2,b,p2,hk2,hf2,AcR,AcS,hl2⟩:∃S2 f2,dB (E f) S= .nx (E f2) S2/\Pre M S2/\S2[kp]?=Ya (.lst ts)/\S2[f2]?=Ya (.lst (gj f1))/\M.length<=f2/\f2≠kp/\(gj f1).length<=n+1:=by
    by_cases he:w=aR
    .obtain⟨k,k2,fs',ef,b,wn,e1,e2⟩:=en he;have et:thing (aO w m)= .str aR:=by unfold thing;rw[qR,he,if_pos (by decide)]
     have exs:gj fs++[thing (aO w m)]=gj (k2::fs')++hdT k::(dZ k++k.cur++[.str aR]):=by rw[e2,et];simp
     rw[exs]at hf1;have hlen:(gj (k2::fs')++hdT k::(dZ k++k.cur++[D.str aR])).length<=5000:=by rw[←exs,Yl];show _+1<=_;omega
     have ck:=c k (by rw[ef];exact Yg);obtain⟨n',G,q,q1,q2⟩:=Zo2 b wn ck.1 ck.2 hlen hf1;refine⟨S1++G,n',(Ze a1).trans ((cP (M':=S1) (Zj rfl rfl ((Zju S1).trans (by rw[decide_eq_true he])))).trans (Zr (gK rfl q))),p1.app G,Zv hk1 _,by rw[q1,e1],Yp p1.len q2,λz=>?_,?_⟩
     .have:=(Yh.mp hk1).1;omega
     .rw[e1,Yl];have:=congrArg tU e2;rw[Yl,Yk]at this;show _+1<=_;omega
    .refine⟨S1,f,(Ze a1).trans (Zq (Zj rfl rfl ((Zju S1).trans (by rw[decide_eq_false he])))),p1,hk1,by rw[ne he];exact hf1,hfM,hfk,?_⟩;rw[ne he,Yl];show _+1<=_;omega
   obtain⟨S',f',y4,q,q1,q2⟩:=Zln hk rs f1 gs (n+1) f2 S2 (Ya (thing (aO w m))) p2 hk2 hf2 AcR AcS v1 c1 l1 hl2 (by omega) (λr hr=>hL r (Ye _ hr)) hr;refine⟨S',f',y4,?_,q1,q2⟩;rw[Yv,uh,if_pos (show locked ⟨ts,Ya kp⟩ S=true from decide_eq_true hkS)];show(match dB (E f) S with
    | .nx e M'=>cX ⟨ts,Ya kp⟩ (dN 4) dB (rs.map thing) e M'|.ct e M'=>cX ⟨ts,Ya kp⟩ (dN 4) dB (rs.map thing) e M'|.bk e M'=>O3.nx e M'|o=>o)=_
   rw[b];exact q
noncomputable abbrev CP:List Pf:=[⟨eY,[],[],[]⟩]
theorem Va(p:Pre M S)(h:below M.length d=true):dG M d S= .ok d M:=by
 have ht:S.take M.length=M:=by
  apply zR;intro a;by_cases ha:a<M.length
  .rw[vA ha];exact p.pre a ha
  .rw[zM (by rw[xu];omega),zM (iW ha)]
 unfold dG;rw[h,ht,decide_eq_true rfl];rfl
theorem Zvq:wH [⟨eY,[],[],[]⟩]:=λk hk=>by rw[Yr.mp hk];exact⟨(λx hx=>nomatch hx),(λx hx=>nomatch hx)⟩
theorem Zll{i:Nat}(hv:Za i env S= .ok (.ref n) S)(h:S[n]?=Ya (.lst xs)):eQ (Za i) env S= .ok ⟨xs,Ya n⟩ S:=by unfold eQ;rw[hv];simp only[R3.bind,h]
theorem Zt7{r:Nat}{k:Pf}(hr:M[r]?=Ya (.lst (Ls.map eE)))(hL:∀r,Ya r∈Ls->nT r)(hz:Ls.length<900)(hp:wG (Ls.filterMap id) [⟨eY,[],[],[]⟩]=Ya [k])(hb:below M.length (.tup k.cur)=true):Lb [.ref r] M= .ok (.tup k.cur) M:=by
 have hrl:=(Yh.mp hr).1;have fl:(Ls.filterMap id).length<=Ls.length:=Xl _ _
 let S0:=M++[MO.lst []]
 have h0:S0[M.length]?=Ya (.lst []):=Zy _ _ _;obtain⟨S1,y2,q1,k1,p1⟩:=ZjL (M:=M) (kp:=M.length) (it:=⟨Ls.map eE,Ya r⟩) (λS p=>decide_eq_true ((p.pre r hrl).trans hr)) (Yo _) (v0:=Ya (.ref r)) (v3:=Yj) (v4:=Yj) Ls [] S0 Yj ((Pre.refl M).app _) h0 hL (by simp;omega);rw[mQ]at k1;have kl:=(Yh.mp k1).1
 let S2:=S1++[MO.lst []]
 obtain⟨S3,f',y4,q2,k2,p2⟩:=Zln (M:=M) (kp:=M.length) (ts:=(Ls.filterMap id).map thing) (Yo _) (v0:=Ya (.ref r)) (v2:=y2) (Ls.filterMap id) [⟨eY,[],[],[]⟩] [k] 0 S1.length S2 Yj (p1.app _) (Zv k1 _) (Zy _ _ _) p1.len (by omega) ZpX Zvq Lt.one (d8 _) (by omega) (λx hx=>by obtain⟨l,hl,e⟩:=Dy.mp hx;cases e;exact hL x hl) hp;refine(kJ (M':=S3) (d:=.tup k.cur) (env:=[Ya (.ref r),Yj,Yj,Yj,Yj]) ?_).trans (Va p2 hb);unfold Uc;refine(Ze (Zr (jh rfl rfl))).trans ?_;refine(Ze ((Fv (Zll rfl (Zv hr _))).trans q1)).trans ?_;refine(Ze (Zr (jh rfl rfl))).trans ?_;refine(Ze ((Fv (Zll rfl (Zv k1 _))).trans q2)).trans ?_;exact cF (cQ rfl (Ay k2))
theorem ZsO:Gw c f (.ref S.length) (S++[.ins (0::c) [(f,.int i)]])= .ok (.int i) (S++[.ins (0::c) [(f,.int i)]]):=by unfold Gw;simp
theorem Zlj{T:List Nat}{z:Int}(h:qP M z (yL [.str T] M)):wu [.str T] M= .ok (.int z) M:=by
 obtain⟨S',q,q1,q2⟩:=h
 let S1:=S'++[MO.ins (0::uN) [(Hf,.int z)]]
 have p:Pre M S1:=Pre.app ⟨q1,q2⟩ _;refine(kJ (M':=S1) (d:=.int z) (env:=[Ya (.str T),Yj,Yj,Yj]) ?_).trans (Va p rfl);unfold Ld;refine(Ze (Zr rfl)).trans ((Ze (Zr rfl)).trans ?_);refine(Ze (ZpU (x:=⟨uN,.ref S'.length⟩) (M':=S1) (e2:=[Ya (.str T),Ya .non,Ya (.ref S'.length),Yj]) (Zqp ((UW (ds:=[.str T]) (Zo rfl rfl)).trans q)) rfl (Zr rfl) rfl)).trans ?_;refine iK ((cP (M':=S1) (Zj rfl rfl rfl)).trans (cF (eU rfl ZsO)))
theorem Zsm{T:List Nat}(h:yL [.str T] M= .ok d M)(hb:below M.length d=true):wu [.str T] M= .ok d M:=by refine(kJ (M':=M) (d:=d) (env:=[Ya (.str T),Yj,Yj,Yj]) ?_).trans (Va (Pre.refl M) hb);unfold Ld;refine(Ze (Zr rfl)).trans ((Ze (Zr rfl)).trans ?_);refine(Ze (Zs7 (e:=[Ya (.str T),Ya d,Ya .non,Yj]) (Zr ((UW (ds:=[.str T]) (Zo rfl rfl)).trans h)))).trans ?_;exact(Ze (Zq (M':=M) (Zj rfl rfl rfl))).trans (cF rfl)
noncomputable def fV:Nat->D->Bool
 |_,.int _=>true|_,.str _=>true|_,.bl _=>true|n+1,.tup ds=>decide (ds.length<=1000)&&ds.all (fV n)
 |_,_=>false
theorem Vb:∀(n:Nat) (d:D) (M:Store),fV n d=true->o7 (n+1) [d,d] M= .ok (.bl true) M:=by
 intro n
 induction n with
 |zero=>
  intro d M h;cases d with
  |str x=>simp[o7,sU,Zw,aJ,aX,aK,aY,bV,bL,dG,below,bJ,vR]|int i=>simp[o7,sU,Zw,aJ,aX,aK,aY,bV,bL,dG,below,bJ,vR]|bl b=>simp[o7,sU,Zw,aJ,aX,aK,aY,bV,bL,dG,below,bJ,vR]|_=>simp[fV]at h
 | succ n ih=>
  intro d M h;cases d with
  |str x=>simp[o7,sU,Zw,aJ,aX,aK,aY,bV,bL,dG,below,bJ,vR]|int i=>simp[o7,sU,Zw,aJ,aX,aK,aY,bV,bL,dG,below,bJ,vR]|bl b=>simp[o7,sU,Zw,aJ,aX,aK,aY,bV,bL,dG,below,bJ,vR]|tup ds=>
   simp only[fV,Y5,decide_eq_true_eq,gO]at h;obtain⟨hl,hd⟩:=h;show bL 2 2 (sU (o7 (n+1))) [.tup ds,.tup ds] M=_;generalize o7 (n+1)=F at ih;have lc:=A_ (α:=Nat) (enc:=λk=>D.int (0+(k:Int))) (h:=λ_=>D.bl true) (own:=1) (i:=2) (it:=RJ (aG bx (Zb (Za 1) (Zg)))) (elt:=bf F (Zb (e2 Zz (Za 0) (Za 2)) (Zb (e2 Zz (Za 1) (Za 2)) (Zg)))) (env:=[Ya (.tup ds),Ya (.tup ds)]) (M:=M) (M1:=M) (lock:=Yj) (as:=iV ds.length)
    (by have:(ds.length:Int)<=1000000/\ -1000000<=(ds.length:Int):=⟨iN [_] [] 1 0xf42405b0883e83b001 T1 hl,iN [_] [] 0 615291837336 T1⟩;simp[this,Fp]) (λ_ h=>by cases h)
    (λk hk M=>by
     have hk':k<ds.length:=by simpa using hk
     have hg:ds[k]?=Ya ds[k]:=by simp[hk']
     have:=ih ds[k] M (hd _ (xx hk'));have gk:dW ds (0+(k:Int))=Ya ds[k]:=by rw[Ed,iy,hg]
     simp only[bf,Zb,e2,Za,Zg,xF,mQ,Y2,List.set,Io,Im,R3.bind,Rv,Rx,Ry,Rz,gk,this]) (by simp;exact lA 1 0x186a05b003e83b001 T1 hl)
   refine Rt.pure (G:=[.lst ((iV ds.length).map λ_=>D.bl true)]) (env:=[Ya (.tup ds),Ya (.tup ds)]) ?_ rfl;unfold sU;refine iK ((cP (M':=M) (by exact rfl)).trans ((Ze (Zq (M':=M) (by exact rfl))).trans (cF ((lY (M1:=M) (by simp)).trans (cQ lc ?_)))));simp[allB,Av,yd]
  |_=>simp[fV]at h
theorem Zhu:∀(n:Nat) (d:D),fV n d=true->fV (n+1) d=true
 |0,.int _,_=>rfl|0,.str _,_=>rfl|0,.bl _,_=>rfl|n+1,.int _,_=>rfl
 |n+1,.str _,_=>rfl|n+1,.bl _,_=>rfl|n+1,.tup ds,h=>by have h:(decide (ds.length<=1000)&&ds.all (fV n))=true:=h;show(decide (ds.length<=1000)&&ds.all (fV (n+1)))=true;rw[Y5,gO]at h ⊢;exact⟨h.1,λx hx=>Zhu n x (h.2 x hx)⟩
theorem Vc(h:n<=m)(p:fV n d=true):fV m d=true:=by
 induction h with
 |refl=>exact p|step _ ih=>exact Zhu _ _ ih
theorem wI(l:ds.length<=1000)(h:∀x∈ds,fV n x=true):fV (n+1) (.tup ds)=true:=by show(decide (ds.length<=1000)&&ds.all (fV n))=true;rw[Y5,gO];exact⟨decide_eq_true l,h⟩
theorem ZpQ(n:Nat)(x:List Nat):fV n (.str x)=true:=by cases n<;>rfl
theorem Ve{m:Nat}:∀{l:List D},(∀x∈l,below m x=true)->bJ m l=true
 |[],_=>rfl|d::l,h=>by show(below m d&&bJ m l)=true;rw[h d Yg,Ve λx hx=>h x (Ye _ hx)];rfl
theorem L_(m:Nat):∀(n:Nat) (d:D),fV n d=true->below m d=true
 |0,.int _,_=>rfl|0,.str _,_=>rfl|0,.bl _,_=>rfl|n+1,.int _,_=>rfl
 |n+1,.str _,_=>rfl|n+1,.bl _,_=>rfl|n+1,.tup ds,h=>by have h:(decide (ds.length<=1000)&&ds.all (fV n))=true:=h;rw[Y5,gO]at h;show bJ m ds=true;exact Ve λx hx=>L_ m n x (h.2 x hx)
theorem ZsX{w:D}(h:qN w):fV n w=true:=by cases h<;>cases n<;>rfl
theorem ZlN(H:yQ r):∀x∈r.tl,fV 1 x=true:=λx hx=>by
 rcases gP.mp hx with h|h
 .obtain⟨y,_,rfl⟩:=lR.mp h;rfl
 .obtain⟨t,ht,rfl⟩:=lR.mp h;exact wI (Yp (Zn4 ht) (Yp H.ok.len (by decide))) λw hw=>ZsX (Cp t w hw)
theorem Zub(H:yQ r):r.tl.length<=60:=by have h1:=H.le;have h2:=Uu r.ts;simp only[Rw.tl,Yl,Yw];exact lC 2 0x3c2b02c03b2b12c011001 T1 h2 h1
noncomputable def y_:List Pf->Prop
 |[]=>True|k::fs=>(k.cur.length<=1000/\∀x∈k.cur,fV (2*(13-fs.length)) x=true)/\(∀l∈k.cl,l.length<=1000/\∀x∈l,fV (2*(13-fs.length)) x=true)/\(∀x∈k.hd,fV 1 x=true)/\fs.length<=12/\y_ fs
theorem Zq0(H:yQ r):∀{x y:List Pf},y_ x->fU r x=Ya y->y_ y
 |[],_,_,h=>nomatch h|k :: fs,y,P,h=>by
  have h:stepK r k fs=Ya y:=h;obtain⟨p1,p2,p3,p4,p5⟩:=P;unfold stepK at h;by_cases h1:nR r.h=true
  .rw[if_pos h1]at h;by_cases hl:fs.length+1<=12
   .rw[if_pos hl]at h;rw[←Y9 h];exact⟨⟨d8 _,(λx hx=>nomatch hx)⟩,(λl hl=>nomatch hl),ZlN H,hl,p1,p2,p3,p4,p5⟩
   .rw[if_neg hl]at h;cases h
  rw[if_neg h1]at h;by_cases h2:r.h=aQ
  .rw[if_pos h2]at h;by_cases hc:k.h=aM/\k.cl=[]
   .rw[if_pos hc]at h;rw[←Y9 h];exact⟨⟨d8 _,(λx hx=>nomatch hx)⟩,(λl hl=>by rw[Yr.mp hl];exact p1),p3,p4,p5⟩
   .rw[if_neg hc]at h;cases h
  rw[if_neg h2]at h;by_cases h3:r.h=aR
  .rw [if_pos h3]at h;cases fs with
   |nil=>cases h|cons k2 fs=>
    simp only at h;by_cases hc:o9 k.h=((k.cl.length+1:Nat):Int)/\k.hd.length<100/\k.cl.length<100/\k2.cur.length<1000
    .rw [if_pos hc]at h;rw [←Y9 h];obtain⟨q1,q2,q3,q4,q5⟩:=p5;rw[Yk]at p1 p2 p4;have ed:2*(13-fs.length)=2*(13-(fs.length+1))+1+1:=gn (lC 2 0xaa202dcc002d0a1c2cd1b02d1b10c22 T1 (j4 (lA 1 0xd1b00c1b001 T1 q4)) (jH _ _)) (lC 2 0x2daa202dcc0d1ba1c2c2210cd1b02 T1 (jH _ _) (j4 (lA 1 0xd1ba0c0c1b001 T1 q4)));have hw:fV (2*(13-fs.length)) k.whole=true:=by
      rw[ed];refine wI ?_ λx hx=>?_
      .simp only[Yl,Yk,Yw,DK];exact lB 2 0x3e83baec1ca0cc0642b111642b011 T1 hc.2.1 hc.2.2.1
      .rcases gP.mp hx with z|z
       .rcases Ym.mp z with e|e
        .rw[e];exact ZpQ _ _
        .exact Vc (Pn _ _) (p3 x e)
       .obtain⟨l,hl,rfl⟩:=lR.mp z;rcases gP.mp hl with e|e
        .exact wI (p2 l e).1 (p2 l e).2
        .rw[Yr.mp e];exact wI p1.1 p1.2
     refine⟨⟨by rw[Yl,lQ];exact hc.2.2.2,λx hx=>?_⟩,q2,q3,q4,q5⟩;rcases gP.mp hx with z|z
     .exact q1.2 x z
     .rw[Yr.mp z];exact hw
    .rw[if_neg hc]at h;cases h
  rw[if_neg h3]at h;by_cases hc:k.cur.length<1000
  .rw[if_pos hc]at h;rw[←Y9 h];have hd:fV (2*(13-fs.length)) (.tup r.deed)=true:=by
    refine Vc (n:=2) (lB 2 0x102d21b001cd1b02c1b002 T1 p4 (jH _ _)) (wI (n:=1) ?_ λx hx=>?_)
    .rw[Cw,Yk];have:=Zub H;exact lA 1 0x3e83ba0c03c2b001 T1 this
    .rw[Cw]at hx;rcases Ym.mp hx with e|e
     .rw[e];rfl
     .exact ZlN H x e
   refine⟨⟨by rw[Yl,lQ];exact hc,λx hx=>?_⟩,p2,p3,p4,p5⟩;rcases gP.mp hx with z|z
   .exact p1.2 x z
   .rw[Yr.mp z];exact hd
  .rw[if_neg hc]at h;cases h
theorem ZjJ(q:Int×Rw):∀(L:List (Int×Rw)) (fs:List Pf),jj (L++[q]) fs=(match jj L fs with
  | .inl z=>.inl z|.inr gs=>match fU q.2 gs with
   |some hs=>.inr hs|none=>.inl q.1)
 | [],fs=>by
  show(match fU q.2 fs with
   |some gs=>jj [] gs|none=>Sum.inl q.1)=(match fU q.2 fs with
   |some hs=>Sum.inr hs|none=>Sum.inl q.1)
  cases fU q.2 fs<;>rfl
 | p::L,fs=>by
  show(match fU p.2 fs with
   |some gs=>jj (L++[q]) gs|none=>Sum.inl p.1)=(match(match fU p.2 fs with
    |some gs=>jj L gs|none=>Sum.inl p.1)with
   | .inl z=>.inl z|.inr gs=>match fU q.2 gs with
    |some hs=>.inr hs|none=>.inl q.1)
  cases fU p.2 fs with
  |none=>rfl|some gs=>exact ZjJ q L gs
theorem Ma:∀(k:Nat) (Ls Ks:List (Option Rw)),gb k (Ls++Ks)=gb k Ls++gb (k+Ls.length) Ks
 |k,[],Ks=>rfl|k,Yj::r,Ks=>by show gb (k+1) (r++Ks)=gb (k+1) r++_;rw[Ma (k+1) r Ks,Yk,show k+1+r.length=k+(r.length+1)by omega]
 |k,Ya w::r,Ks=>by show(((k:Nat):Int),w)::gb (k+1) (r++Ks)=(((k:Nat):Int),w)::gb (k+1) r++_;rw[Ma (k+1) r Ks,Yk,show k+1+r.length=k+(r.length+1)by omega];rfl
noncomputable abbrev RX(Ls:List (Option Rw)):Sum Int (List Pf):=jj (gb 1 Ls) CP
theorem Znh:RX (Ls++[Yj])=RX Ls:=by unfold RX;rw[Ma];show jj (gb 1 Ls++[]) CP=_;rw[iD]
theorem Vf(r:Rw):RX (Ls++[Ya r])=(match RX Ls with
  | .inl z=>.inl z|.inr gs=>match fU r gs with
   |some hs=>.inr hs|none=>.inl ((1+Ls.length:Nat):Int)):=by
 unfold RX;rw[Ma];exact ZjJ (((1+Ls.length:Nat):Int),r) (gb 1 Ls) CP
theorem Vg:∀(k:Nat) (Ls:List (Option Rw)),(gb k Ls).map (·.2)=Ls.filterMap id
 |_,[]=>rfl|k,Yj::r=>Vg (k+1) r|k,Ya w::r=>congrArg (w:: ·) (Vg (k+1) r)
theorem Zlu:∀{L:List (Int×Rw)} {n:Nat} {fs gs:List Pf},Vd fs->Lt n fs->y_ fs->(∀q∈L,nT q.2)->n+L.length<1000->jj L fs= .inr gs->Vd gs/\y_ gs/\wG (L.map (·.2)) fs=Ya gs
 |[],n,fs,gs,v,_,p,_,_,e=>by cases e;exact⟨v,p,rfl⟩|q::L,n,fs,gs,v,l,p,h,hz,e=>by
  unfold jj at e;rw[Yk]at hz;obtain⟨w,m,hw,hm,hq⟩:=h q Yg;cases hs:fU q.2 fs with
  |none=>rw[hs]at e;cases e|some f1=>rw[hs]at e;have ok:=CJ hw hm;rw[hq]at hs;have rel:=LC (m:=m) v l (by omega) hw;rw[hs]at rel;obtain⟨a,b,c⟩:=Zlu rel.2.1 (l.step ok.tl hs) (Zq0 ok.ok p hs) (λx hx=>h x (Ye _ hx)) (by omega) e;refine⟨a,b,?_⟩;rw[Yv];unfold wG;rw[hq,hs];exact c
theorem Hi{fs:List Pf}(hL:∀r,Ya r∈Ls->nT r)(hz:Ls.length<900)(e:RX Ls= .inr fs):Vd fs/\y_ fs/\wG (Ls.filterMap id) CP=Ya fs/\Lt (gb 1 Ls).length fs:=by have hl:=Cz 1 Ls;have hq:∀q∈gb 1 Ls,nT q.2:=λq hq=>hL _ (Hh hq).1;have p0:y_ CP:=⟨⟨d8 _,(λx hx=>nomatch hx)⟩,(λx hx=>nomatch hx),(λx hx=>nomatch hx),d8 _,trivial⟩;obtain⟨a,b,c⟩:=Zlu ZpX Lt.one p0 hq (by omega) e;rw[Vg]at c;have l:=Uz Lt.one (λq h=>by obtain⟨w,m,hw,hm,e⟩:=hq q h;rw[e];exact(CJ hw hm).tl) e;rw[tV]at l;exact⟨a,b,c,l⟩
structure LS(sc:List D)(S:Store)(s:Nat)(num:Int)(Ls:List (Option Rw)):Prop where
 hr:S[0]?=Ya (.lst (Ls.map eE))
 hs:∃ts,jQ S s ts/\(num=0->∃fs,RX Ls= .inr fs/\ts=gB fs)
 cl:S[2]?=Ya (.lst sc)
 ne:s≠0
 law:∀r,Ya r∈Ls->nT r
 bad:num≠0->0<num/\RX Ls= .inl num
theorem ZnX(K:jQ S s ts)(h:s≠0)(o:MO):jQ (S.set 0 o) s ts:=by show(S.set 0 o)[s]?=_;rw[Yz (bT h)];exact K
variable{sc:List D}{num:Int}
theorem LS.put{l:Option Rw}(ne:s≠0)(law:∀r,Ya r∈Ls->nT r)(hl:∀r,l=Ya r->nT r)(hr:S[0]?=Ya (.lst (Ls.map eE)))(hc:S[2]?=Ya (.lst sc))(K:jQ S s ts)(h0:num=0->∃fs,RX (Ls++[l])= .inr fs/\ts=gB fs)(h1:num≠0->0<num/\RX (Ls++[l])= .inl num):LS sc (S.set 0 (.lst (Ls.map eE++[eE l]))) s num (Ls++[l]):=by
 refine⟨?_,⟨ts,ZnX K ne _,h0⟩,by rw[Yz (by decide)];exact hc,ne,λr hm=>?_,h1⟩
 .rw[LR hr,pI];rfl
 .rcases gP.mp hm with z|z
  .exact law r z
  .exact hl r (Yr.mp z).symm
theorem pq{n:Int}:aN (.int n) (.int 0) S= .ok (.bl (decide (n=0))) S:=by simp only[aN,rJ]
noncomputable abbrev aC:E3:=eO (e2 aN (Za 3) (eC (.int 0))) (e1 lX (bf uH (Zb (Za 2) (Zb (Za 5) (Zg)))))
noncomputable abbrev aB(g:S3):S3:=Zw (aK aC (aJ 3 (e2 cJ (aG bx (Zb (Za 1) (Zg))) (eC (.int 1)))) (aY)) (Zw (aK (e2 aN (Za 3) (eC (.int 0))) (aJ 2 (bf yM (Zb (Za 2) (Zb (Za 5) (Zg))))) (aY)) (Zw (bV (bB dF d9 (Za 1) (Zb (bf Ce (Zb (Za 5) (Zb (Za 4) (Zg)))) (Zg)))) g))
noncomputable abbrev lE(v0 v6:Option D)(s:Nat)(num c:Int)(w:Option D):Zx:=[v0,Ya (.ref 0),Ya (.ref s),Ya (.int num),Ya (.int c),w,v6]
variable{v6:Option D}
theorem Zsq{c:Int}{v0:Option D}{g:S3}(I:LS sc S s num Ls)(hw:w∈qQ)(hz:Ls.length<890):
  ∃S' s' qY m,aB g (lE v0 v6 s num c (Ya (.str w))) S=g (lE v0 v6 s' qY c (Ya (.str w))) S'/\LS sc S' s' qY (Ls++[Ya (aO w m)]):=by
 obtain⟨ts,K,h0⟩:=I.hs
 let m:=(c / 7 % 10).toNat
 have hm:m<10:=by omega
 have hl:∀r,Ya (aO w m)=Ya r->nT r:=λr e=>by cases e;exact⟨w,m,hw,hm,rfl⟩
 have hlt:(Ls.map eE).length<SZ:=j5 (show(Ls.map eE).length<=1000 by rw[Yw];omega) (by decide);have app:∀{S':Store} {s':Nat} {qY:Int},S'[0]?=Ya (.lst (Ls.map eE))->bV (bB dF d9 (Za 1) (Zb (bf Ce (Zb (Za 5) (Zb (Za 4) (Zg)))) (Zg))) (lE v0 v6 s' qY c (Ya (.str w))) S'= .nx (lE v0 v6 s' qY c (Ya (.str w))) (S'.set 0 (.lst (Ls.map eE++[eE (Ya (aO w m))]))):=λh=>yO rfl h (oO rfl rfl (ZuL hw _)) h hlt;by_cases hn:num=0
 .subst hn;obtain⟨fs,e,et⟩:=h0 rfl;obtain⟨v,pl,_,l⟩:=Hi I.law (by omega) e;have hle:=Cz 1 Ls;have rel:=LC (m:=m) v l (by omega) hw;have hk:e1 lX (bf uH (Zb (Za 2) (Zb (Za 5) (Zg)))) (lE v0 v6 s 0 c (Ya (.str w))) S= .ok (.bl (!g8 ts w)) S:=eU (oO rfl rfl (Zrz K w)) rfl;have c1:aC (lE v0 v6 s 0 c (Ya (.str w))) S= .ok (.bl (!g8 ts w)) S:=(lY (M1:=S) (Zj rfl rfl pq)).trans hk;have ex:RX (Ls++[Ya (aO w m)])=(match fU (aO w m) fs with
   |some hs=>Sum.inr hs|none=>Sum.inl ((1+Ls.length:Nat):Int)):=by
   rw[Vf,e]
   try dsimp only
   try(cases fU (aO w m) fs<;>rfl)
  cases hs:fU (aO w m) fs with
  |none=>rw[hs]at rel ex;rw[et]at c1;rw[show g8 (gB fs) w=false from rel]at c1;refine⟨_,s,((1+Ls.length:Nat):Int),m,?_,LS.put I.ne I.law hl I.hr I.cl K (λz=>absurd z (by omega)) λ_=>⟨by omega,ex⟩⟩;refine(Ze ((cP c1).trans (Zr (Zj (cQ rfl (kO I.hr)) rfl ((Aj _ _).trans (by rw[Yw,show((Ls.length:Nat):Int)+1=((1+Ls.length:Nat):Int)by omega])))))).trans ?_;refine(Ze (Zq (M':=S) (Zj rfl rfl (pq.trans (by rw[decide_eq_false (show¬((1+Ls.length:Nat):Int)=0 by omega)]))))).trans ?_;exact Ze (app I.hr)|some gs=>
   rw[hs]at rel ex;rw[et]at c1;rw[rel.1]at c1;have tz:ts.length<=1000:=by
    rw[et];cases fs with
    |nil=>exact absurd rfl l.ne|cons k fs=>have:=Lz (fs:=k::fs) (by simp);rw[Yk]at this;have:=pl.2.2.2.1;omega
   obtain⟨s',G,q,K',hs'⟩:=ZjG K w tz;have ne':s'≠0:=by
    rcases hs' with z|z
    .rw[z];exact I.ne
    .have:=(Yh.mp I.hr).1;omega
   have hr':(S++G)[0]?=Ya (.lst (Ls.map eE)):=Zv I.hr _;refine⟨_,s',0,m,?_,LS.put ne' I.law hl hr' (Zv I.cl _) K' (λ_=>⟨gs,ex,by rw[rel.2.2,et]⟩) λz=>absurd rfl z⟩;refine(Ze (Zq c1)).trans ?_;refine(Ze ((cP (M':=S) (Zj rfl rfl pq)).trans (Zr (oO rfl rfl q)))).trans ?_;exact Ze (app hr')
 .obtain⟨hp,eb⟩:=I.bad hn;have ex:=Vf (Ls:=Ls) (aO w m);rw[eb]at ex;have f0:∀S':Store,e2 aN (Za 3) (eC (.int 0)) (lE v0 v6 s num c (Ya (.str w))) S'= .ok (.bl false) S':=λS'=>Zj rfl rfl (pq.trans (by rw[decide_eq_false hn]));refine⟨_,s,num,m,?_,LS.put I.ne I.law hl I.hr I.cl K (λz=>absurd z hn) λ_=>⟨hp,ex⟩⟩;exact(Ze (Zq (oR (f0 S)))).trans ((Ze (Zq (f0 S))).trans (Ze (app I.hr)))
noncomputable abbrev lG:S3:=aK (eO (e2 aN (e2 gW (e2 jM (Za 4) (eC (.int 3))) (eC (.int 13))) (eC (.int 5))) (e2 jN (aG bx (Zb (Za 1) (Zg))) (eC (.int 400)))) (bV (bB dF d9 (Za 1) (Zb (eC (.str [])) (Zg)))) (aY)
noncomputable abbrev Hj:S3:=Zw (aJ 5 (bf GD (Zb (Za 4) (Zb (Za 2) (Zg))))) (aB lG)
theorem Zo5{c:Int}{w v0:Option D}(I:LS sc S s num Ls)(hz:Ls.length<890):∃S' nU,lG (lE v0 v6 s num c w) S= .nx (lE v0 v6 s num c w) S'/\LS sc S' s num nU/\nU.length<=Ls.length+1:=by
 have hlt:(Ls.map eE).length<SZ:=j5 (show(Ls.map eE).length<=1000 by rw[Yw];omega) (by decide);obtain⟨b,hb⟩:∃b,eO (e2 aN (e2 gW (e2 jM (Za 4) (eC (.int 3))) (eC (.int 13))) (eC (.int 5))) (e2 jN (aG bx (Zb (Za 1) (Zg))) (eC (.int 400))) (lE v0 v6 s num c w) S= .ok (.bl b) S:=by
  have q:e2 aN (e2 gW (e2 jM (Za 4) (eC (.int 3))) (eC (.int 13))) (eC (.int 5)) (lE v0 v6 s num c w) S= .ok (.bl (decide (c / 3 % 13=5))) S:=Zj (Zj (Zj rfl rfl (G4 (by decide))) rfl (yh (by decide))) rfl (by simp only[aN,rJ]);by_cases h:c / 3 % 13=5
  .rw[decide_eq_true h]at q;exact⟨_,(lY q).trans (Zj (cQ rfl (kO I.hr)) rfl (Ak _ _))⟩
  .rw[decide_eq_false h]at q;exact⟨_,oR q⟩
 cases b with
 |false=>exact⟨S,Ls,Zq hb,I,vI _⟩|true=>
  obtain⟨ts,K,h0⟩:=I.hs;refine⟨_,Ls++[Yj],(cP hb).trans (yO (d:=eE Yj) rfl I.hr rfl I.hr hlt),LS.put I.ne I.law (λr z=>nomatch z) I.hr I.cl K (λz=>?_) (λz=>?_),by simp⟩
  .rw[Znh];exact h0 z
  .rw[Znh];exact I.bad z
theorem Zjs{sc:List D}{v0 v6:Option D}:∀(cs:List Int) (S:Store) (s:Nat) (num:Int) (Ls:List (Option Rw)) (x4 x5:Option D),LS sc S s num Ls->Ls.length+2*cs.length<=880 ->
  ∃S' s' qY nU y4 y5,cX ⟨sc,Ya 2⟩ (dN 4) Hj (cs.map D.int) [v0,Ya (.ref 0),Ya (.ref s),Ya (.int num),x4,x5,v6] S= .nx [v0,Ya (.ref 0),Ya (.ref s'),Ya (.int qY),y4,y5,v6] S'/\LS sc S' s' qY nU/\nU.length<=Ls.length+2*cs.length
 |[],S,s,num,Ls,x4,x5,I,hz=>⟨S,s,num,Ls,x4,x5,by show cX _ _ _ [] _ _=_;rw[ug,if_pos (show locked ⟨sc,Ya 2⟩ S=true from decide_eq_true I.cl)],I,Yo _⟩|c::cs,S,s,num,Ls,x4,x5,I,hz=>by
  rw[Yk]at hz;obtain⟨ts,K,_⟩:=I.hs;obtain⟨w,hw,e⟩:=Zq5 K c;obtain⟨S1,s1,n1,m,q1,I1⟩:=Zsq (v0:=v0) (v6:=v6) (c:=c) (g:=lG) I hw (by omega);obtain⟨S2,Ls2,q2,I2,l2⟩:=Zo5 (v0:=v0) (v6:=v6) (c:=c) (w:=Ya (.str w)) I1 (by rw[Yl];show Ls.length+1<_;omega);rw[Yl]at l2;have l2:Ls2.length<=Ls.length+1+1:=l2;obtain⟨S',s',qY,nU,y4,y5,q,I',l'⟩:=Zjs cs S2 s1 n1 Ls2 (Ya (.int c)) (Ya (.str w)) I2 (by omega);refine⟨S',s',qY,nU,y4,y5,?_,I',by rw[Yk];omega⟩;have b:Hj [v0,Ya (.ref 0),Ya (.ref s),Ya (.int num),Ya (.int c),x5,v6] S= .nx (lE v0 v6 s1 n1 c (Ya (.str w))) S2:=(Ze (Zr (oO rfl rfl e))).trans (q1.trans q2);rw[Yv,uh,if_pos (show locked ⟨sc,Ya 2⟩ S=true from decide_eq_true I.cl)];show(match Hj [v0,Ya (.ref 0),Ya (.ref s),Ya (.int num),Ya (.int c),x5,v6] S with
    | .nx e M'=>cX ⟨sc,Ya 2⟩ (dN 4) Hj (cs.map D.int) e M'|.ct e M'=>cX ⟨sc,Ya 2⟩ (dN 4) Hj (cs.map D.int) e M'|.bk e M'=>O3.nx e M'|o=>o)=_
  rw[b];exact q
noncomputable def mu:List (List Nat)->Nat
 |[]=>0|t::ts=>(if t=aM then 2 else 1)+mu ts
theorem ZtD:∀ts,mu ts<=2*ts.length
 |[]=>Yo _|t::ts=>by have:=ZtD ts;unfold mu;rw[Yk];split <;>omega
noncomputable abbrev wC:E3:=eO (e2 aN (Za 3) (eC (.int 0))) (eO (e2 sO (Za 2) (b_ (Zg))) (e2 aN (e2 gW (aG bx (Zb (Za 0) (Zg))) (eC (.int 2))) (eC (.int 0))))
noncomputable abbrev wB:S3:=Zw (aJ 5 (eC (.str aR))) (Zw (aK (e2 aN (e2 Zz (Za 2) (e1 gH (eC (.int 1)))) (eC (.str aM))) (aJ 5 (eC (.str aQ))) (aY)) (Zw (aJ 2 (bf yM (Zb (Za 2) (Zb (Za 5) (Zg))))) (bV (bB dF d9 (Za 1) (Zb (Za 5) (Zg))))))
theorem LS.app(I:LS sc S s num Ls)(G:Store):LS sc (S++G) s num Ls:=⟨Zv I.hr _,(let⟨ts,K,h⟩:=I.hs;⟨ts,Zv K _,h⟩),Zv I.cl _,I.ne,I.law,I.bad⟩
theorem ZmK{v4:Option D}:∀(μ f:Nat) (S:Store) (s:Nat) (num:Int) (Ls:List (Option Rw)) (x5:Option D),LS sc S s num Ls->(num=0->∀ts,jQ S s ts->mu ts<=μ)->Ls.length+μ<890 ->
  ∃S' s' nU y5,jw wC wB (μ+1+f) [Ya (.a_ xs),Ya (.ref 0),Ya (.ref s),Ya (.int num),v4,x5,v6] S= .nx [Ya (.a_ xs),Ya (.ref 0),Ya (.ref s'),Ya (.int num),v4,y5,v6] S'/\LS sc S' s' num nU/\nU.length<=Ls.length+μ:=by
 intro μ
 induction μ with
 | zero=>
  intro f S s num Ls x5 I hm hz;rw[show 0+1+f=f+1 by omega];by_cases hn:num=0
  .obtain⟨ts,K,_⟩:=I.hs;have e:ts=[]:=by
    have:=hm hn ts K;cases ts with
    |nil=>rfl|cons t ts=>unfold mu at this;split at this<;>omega
   subst e;refine⟨S++[.lst []],s,Ls,x5,CK ((lY (M1:=S) (Zj rfl rfl (pq.trans (by rw[decide_eq_true hn])))).trans (oR (uP K rfl))),I.app _,Yo _⟩
  .exact⟨S,s,Ls,x5,CK (oR (Zj rfl rfl (pq.trans (by rw[decide_eq_false hn])))),I,Yo _⟩
 | succ μ ih=>
  intro f S s num Ls x5 I hm hz;rw[show μ+1+1+f=μ+1+f+1 by omega];by_cases hn:num=0
  .subst hn;obtain⟨ts,K,h0⟩:=I.hs;have c0:e2 aN (Za 3) (eC (.int 0)) [Ya (.a_ xs),Ya (.ref 0),Ya (.ref s),Ya (.int 0),v4,x5,v6] S= .ok (.bl true) S:=Zj rfl rfl pq;cases ts with
   |nil=>exact⟨S++[.lst []],s,Ls,x5,CK ((lY c0).trans (oR (uP K rfl))),I.app _,lU _ _⟩|cons t ts=>
    let S1:=S++[MO.lst []]
    have I1:=I.app [MO.lst []];have K1:jQ S1 s (t::ts):=Zv K _;have cp:e2 aN (e2 gW (aG bx (Zb (Za 0) (Zg))) (eC (.int 2))) (eC (.int 0)) [Ya (.a_ xs),Ya (.ref 0),Ya (.ref s),Ya (.int 0),v4,x5,v6] S1= .ok (.bl (decide ((xs.length:Int) % 2=0))) S1:=Zj (Zj (cQ rfl rfl) rfl (yh (by decide))) rfl pq;have cc:wC [Ya (.a_ xs),Ya (.ref 0),Ya (.ref s),Ya (.int 0),v4,x5,v6] S= .ok (.bl (decide ((xs.length:Int) % 2=0))) S1:=(lY c0).trans ((lY (uP K rfl)).trans cp);by_cases hp:(xs.length:Int) % 2=0
    .rw [decide_eq_true hp]at cc;obtain⟨fs,e,et⟩:=h0 rfl;obtain⟨v,pl,_,l⟩:=Hi I.law (by omega) e;have hle:=Cz 1 Ls;obtain⟨w,hw,hwe,s6,AcT,hmu⟩:∃w,w∈qQ/\w∈[aQ,aR]/\aK (e2 aN (e2 Zz (Za 2) (e1 gH (eC (.int 1)))) (eC (.str aM))) (aJ 5 (eC (.str aQ))) (aY) [Ya (.a_ xs),Ya (.ref 0),Ya (.ref s),Ya (.int 0),v4,Ya (.str aR),v6] S1= .nx [Ya (.a_ xs),Ya (.ref 0),Ya (.ref s),Ya (.int 0),v4,Ya (.str w),v6] S1/\g8 (t::ts) w=true/\mu (g_ (t::ts) w)+1=mu (t::ts):=by
      have q5:e2 aN (e2 Zz (Za 2) (e1 gH (eC (.int 1)))) (eC (.str aM)) [Ya (.a_ xs),Ya (.ref 0),Ya (.ref s),Ya (.int 0),v4,Ya (.str aR),v6] S1= .ok (.bl (decide (t=aM))) S1:=Zj (Lx K1 rfl) rfl fQ;by_cases ht:t=aM
      .rw[decide_eq_true ht]at q5;refine⟨aQ,by decide,by decide,(cP q5).trans (Zr rfl),?_,?_⟩
       .unfold g8;rw[if_neg (by decide),if_pos rfl];exact decide_eq_true ht
       .rw[show g_ (t::ts) aQ=aQ::ts by unfold g_;rw[if_neg (by decide),if_pos rfl];rfl];show(if aQ=aM then 2 else 1)+mu ts+1=(if t=aM then 2 else 1)+mu ts;rw[if_pos ht,if_neg (by decide)];omega
      .rw[decide_eq_false ht]at q5;refine⟨aR,by decide,by decide,Zq q5,?_,?_⟩
       .unfold g8;rw[if_neg (by decide),if_neg (by decide),if_pos rfl];show(!decide (t=aM))=true;rw[decide_eq_false ht];rfl
       .rw[show g_ (t::ts) aR=ts by unfold g_;rw[if_neg (by decide),if_neg (by decide),if_pos rfl];rfl];show mu ts+1=(if t=aM then 2 else 1)+mu ts;rw[if_neg ht];omega
     have rel:=LC (m:=0) v l (by omega) hw;rw[←et,AcT]at rel;have ex:RX (Ls++[Ya (aO w 0)])=(match fU (aO w 0) fs with
      |some hs=>Sum.inr hs|none=>Sum.inl ((1+Ls.length:Nat):Int)):=by
      rw[Vf,e]
      try dsimp only
      try(cases fU (aO w 0) fs<;>rfl)
     have tz:(t::ts).length<=1000:=by
      rw[et];cases fs with
      |nil=>exact absurd rfl l.ne|cons k fs=>have:=Lz (fs:=k::fs) (by simp);rw[Yk]at this;have:=pl.2.2.2.1;omega
     obtain⟨s',G,q,K',hs'⟩:=ZjG K1 w tz;have ne':s'≠0:=by
      rcases hs' with z|z
      .rw[z];exact I.ne
      .exact xN (Y6 (Yh.mp I1.hr).1 z)
     have hr':(S1++G)[0]?=Ya (.lst (Ls.map eE)):=Zv I1.hr _;have hlt:(Ls.map eE).length<SZ:=j5 (show(Ls.map eE).length<=1000 by rw[Yw];omega) (by decide);have er:eE (Ya (aO w 0))= .str w:=by show D.str (glue [32] (aO w 0).words)=_;rw[(U_ hw (by decide)).1 hwe]
     cases hs:fU (aO w 0) fs with
     |none=>rw[hs]at rel;exact absurd rel (by simp)|some gs=>
      rw[hs]at rel ex;have IL:LS sc ((S1++G).set 0 (.lst (Ls.map eE++[eE (Ya (aO w 0))]))) s' 0 (Ls++[Ya (aO w 0)]):=LS.put ne' I.law (λr z=>by cases z;exact⟨w,0,hw,by decide,rfl⟩) hr' (Zv I1.cl _) K' (λ_=>⟨gs,ex,rel.2.2.symm⟩) λz=>absurd rfl z;have b:wB [Ya (.a_ xs),Ya (.ref 0),Ya (.ref s),Ya (.int 0),v4,x5,v6] S1= .nx [Ya (.a_ xs),Ya (.ref 0),Ya (.ref s'),Ya (.int 0),v4,Ya (.str w),v6] ((S1++G).set 0 (.lst (Ls.map eE++[eE (Ya (aO w 0))]))):=by rw[er];exact(Ze (Zr rfl)).trans ((Ze s6).trans ((Ze (Zr (oO rfl rfl q))).trans (yO rfl hr' rfl hr' hlt)))
      obtain⟨S',s2,nU,y5,q2,I2,l2⟩:=ih f _ s' 0 _ (Ya (.str w)) IL (λ_ ts' K2=>by
       have e2:=K2.symm.trans (ZnX K' ne' _);injection e2 with e2;injection e2 with e2;have e3:ts'.reverse=(g_ (t::ts) w).reverse:=Xx (λa b h=>by injection h) |>.mp e2
       have e4:=XH.mp e3;rw[e4];have:=hm rfl _ K;omega) (by rw[Yl];show Ls.length+1+μ<_;omega)
      refine⟨S',s2,nU,y5,?_,I2,?_⟩
      .rw[U7 cc b];exact q2
      .rw[Yl]at l2;have l2:nU.length<=Ls.length+1+μ:=l2;omega
    .rw[decide_eq_false hp]at cc;exact⟨S1,s,Ls,x5,CK cc,I1,lU _ _⟩
  .exact⟨S,s,Ls,x5,CK (oR (Zj rfl rfl (pq.trans (by rw[decide_eq_false hn])))),I,lU _ _⟩
theorem ZnO{l:Option Rw}(h:∀r,l=Ya r->nT r):(d_ (l.map Rw.words)).length<=10:=by
 cases l with
 |none=>exact d8 _|some r=>
  obtain⟨w,m,hw,hm,rfl⟩:=h r rfl;have wl:w.length<=5:=by simp only[Ym,ig,or_false]at hw;rcases hw with h|h|h|h|h|h<;>(rw[h];decide)
  show(glue [32] (aO w m).words).length<=10;by_cases he:w∈[aQ,aR]
  .rw[(U_ hw hm).1 he];omega
  .by_cases hs:w=cU
   .rw[hs,Ly,show(⟨cU,[[97]],[.num (m:Int)]⟩:Rw).words=[cU,[97],cY (m:Int)]from rfl,sZ hm];exact(by decide:7<=10)
   .rw[show aO w m=⟨w,[],[.num (m:Int)]⟩by unfold aO;rw[if_neg hs,if_neg he],show(⟨w,[],[.num (m:Int)]⟩:Rw).words=[w,cY (m:Int)]from rfl,sZ hm,lz,Yl];show w.length+2<=10;omega
theorem Zou(hL:∀r,Ya r∈Ls->nT r)(hz:Ls.length<890)(S:Store):
  (∀z,RX Ls= .inl z->wu [.str (glue [10] (Ls.map λl=>d_ (l.map Rw.words)))] S= .ok (.int z) S)/\
  (∀k,RX Ls= .inr [k]->wu [.str (glue [10] (Ls.map λl=>d_ (l.map Rw.words)))] S= .ok (.tup [.tup [],.tup k.cur]) S/\fV 30 (.tup [.tup [],.tup k.cur])=true)/\
  (∀k k2 fs,RX Ls= .inr (k::k2::fs)->wu [.str (glue [10] (Ls.map λl=>d_ (l.map Rw.words)))] S= .ok (.int ((mV 1 Ls.length+1:Nat):Int)) S):=by
 obtain⟨Ks,hne,hK,eR,eT,eN⟩:∃Ks:List (Option Rw),Ks≠[]/\(∀r,Ya r∈Ks->nT r)/\RX Ks=RX Ls/\glue [10] ((jB Ks).map d_)=glue [10] (Ls.map λl=>d_ (l.map Rw.words))/\Ks.length=mV 1 Ls.length:=by
  by_cases h:Ls=[]
  .subst h;exact⟨[Yj],by simp,λr z=>by simp at z,rfl,rfl,rfl⟩
  .refine⟨Ls,h,hL,rfl,by rw[zV];rfl,?_⟩;have:=OJ.mpr h;omega
 have kz:Ks.length<900:=by rw[eN];omega
 have ht:(glue [10] ((jB Ks).map d_)).length<=900000:=by have:=(Zla 10 10 ((jB Ks).map d_) λt hm=>by obtain⟨l,hl,rfl⟩:=lR.mp hm;obtain⟨q,hq,rfl⟩:=lR.mp hl;exact ZnO λr e=>hK r (e▸hq)).2;rw[Yw,Yw]at this;omega
 have rd:=Zt3 (M:=S) hne (λr hr=>by obtain⟨w,m,hw,hm,rfl⟩:=hK r hr;exact CJ hw hm) kz ht;rw[eT]at rd;rw[show jj (gb 1 Ks) [⟨eY,[],[],[]⟩]=RX Ls from eR]at rd;refine⟨λz e=>?_,λk e=>?_,λk k2 fs e=>?_⟩
 .rw[e]at rd;exact Zlj rd
 .obtain⟨_,pl,_,_⟩:=Hi hL (by omega) e;have Vh:k.cur.length<=1000/\∀x∈k.cur,fV 26 x=true:=pl.1;have Di:fV 30 (.tup [.tup [],.tup k.cur])=true:=by
   refine Vc (n:=28) (by decide) (wI (n:=27) (show 2<=1000 by decide) λx hx=>?_);rcases Ym.mp hx with e|e
   .rw[e];exact wI (n:=26) (d8 _) (λy hy=>nomatch hy)
   .rw[Yr.mp e];exact wI (n:=26) Vh.1 Vh.2
  rw[e]at rd;exact⟨Zsm (rd λn=>Ve λx hx=>L_ n 26 x (Vh.2 x hx)) (L_ _ 30 _ Di),Di⟩
 .rw[e]at rd;rw[eN]at rd;exact Zlj rd
theorem Zwx{b:List D->Store->R3 D}{M M1 M2:Store}(h:g env M= .ok ds M1)(h2:b ds M1= .ok d M2):aG b g env M= .ok d M2:=by show(g env M).bind b=_;rw[h];exact h2
theorem law_holds:∀ns:List Int,ns.length<=63->∃M',ZnP [.a_ (ns.map D.int)] []= .ok (.bl true) M':=by
 intro ns hns
 let sc:=ns.map D.int
 refine Rt.law (env:=[Ya (.a_ sc),Yj,Yj,Yj,Yj,Yj,Yj]) ?_;unfold Ud;refine Rt.step (Zr (d:=.ref 0) (M':=[.lst []]) (jh (M':=[]) (ds:=[]) rfl rfl)) ?_;refine Rt.step (Zr (d:=.ref 1) (M':=[.lst [],.lst []]) (jh (M':=[.lst []]) (ds:=[]) rfl rfl)) ?_;refine Rt.step (Zr rfl) ?_
 let S0:Store:=[.lst [],.lst [],.lst sc]
 have Ni:cutD sc Yj (Ya ((400:Nat):Int))=sc:=Zs8 _ _ (by show(ns.map D.int).length<=400;rw[Yw];omega);have hi:eQ (dD (Za 0) (gJ) (bQ (eC (.int 400)))) [Ya (.a_ sc),Ya (.ref 0),Ya (.ref 1),Ya (.int 0),Yj,Yj,Yj] [.lst [],.lst []]= .ok ⟨sc,Ya 2⟩ S0:=by show(alloc (.lst (cutD sc Yj (Ya ((400:Nat):Int)))) [.lst [],.lst []]).bind _=_;rw[Ni];rfl
 have I0:LS sc S0 1 0 []:=⟨rfl,⟨[],rfl,λ_=>⟨CP,rfl,rfl⟩⟩,rfl,by decide,(λr z=>nomatch z),λz=>absurd rfl z⟩;obtain⟨S1,s1,num,L1,y4,y5,q1,I1,l1⟩:=Zjs (v0:=Ya (.a_ sc)) (v6:=Yj) ns S0 1 0 [] Yj Yj I0 (by show 0+2*ns.length<=880;omega);have l1:L1.length<=126:=by have:L1.length<=0+2*ns.length:=l1;omega
 refine Rt.step ((Fv hi).trans q1) ?_;obtain⟨S2,s2,_L2,z5,q2,I2,l2⟩:=ZmK (xs:=sc) (v4:=y4) (v6:=Yj) 26 999973 S1 s1 num L1 y5 I1 (λhn ts K=>by
  obtain⟨ts',K',h0⟩:=I1.hs;obtain⟨fs,e,et⟩:=h0 hn;have e2:=K.symm.trans K';injection e2 with e2;injection e2 with e2;have e3:ts.reverse=ts'.reverse:=Xx (λa b h=>by injection h) |>.mp e2
  rw[XH.mp e3,et];obtain⟨_,pl,_,l⟩:=Hi I1.law (by omega) e;have:=ZtD (gB fs);cases fs with
  |nil=>exact absurd rfl l.ne|cons k fs=>have:=Lz (fs:=k::fs) (by simp);rw[Yk]at this;have:=pl.2.2.2.1;omega) (by omega)
 refine Rt.step (show ye wC wB _ S1=_ from q2) ?_;have l2:_L2.length<890:=by omega
 let T:=glue [10] (_L2.map λl=>d_ (l.map Rw.words))
 have hrow:S2[0]?=Ya (.lst ((_L2.map λl=>d_ (l.map Rw.words)).map D.str)):=by rw[I2.hr,zV];rfl
 have gz:ni [10] (_L2.map λl=>d_ (l.map Rw.words))<=SZ:=by have:=(Zla 10 10 (_L2.map λl=>d_ (l.map Rw.words)) λt hm=>by obtain⟨l,hl,rfl⟩:=lR.mp hm;exact ZnO λr e=>I2.law r (e▸hl)).1;rw[Yw]at this;exact Yp this (Yp (show _L2.length*(10+1)<=100000 by omega) (by decide))
 have jn:∀{v3:Option D},bB iw Bb (eC (.str [10])) (Zb (Za 1) (Zg)) [Ya (.a_ sc),Ya (.ref 0),Ya (.ref s2),v3,y4,z5,Yj] S2= .ok (.str T) S2:=G5 rfl rfl (Zs0 hrow gz);obtain⟨t1,t2,t3⟩:=Zou I2.law l2 S2;obtain⟨ts,K,h0⟩:=I2.hs;by_cases hn:num=0
 .subst hn;obtain⟨fs,e,et⟩:=h0 rfl;obtain⟨v,pl,rp,l⟩:=Hi I2.law (by omega) e
  match fs,e,et,v,rp,l with
  |[],_,_,_,_,l=>exact absurd rfl l.ne|[k],e,et,v,rp,l=>
   obtain⟨td,Di⟩:=t2 k e;have et:ts=[]:=et;subst et
   let S3:=S2++[MO.lst []]
   refine Rt.step (Zr (gK jn td)) ?_;refine Rt.step (Zq ((lY (M1:=S2) (Zj rfl rfl pq)).trans (uP K rfl))) ?_;refine Rt.step (Zq (M':=S3) (Zj rfl rfl (by rw[pN];rfl))) ?_;have dq:=Zt7 (M:=S3) (r:=0) (k:=k) (Zv I2.hr _) I2.law (by omega) rp (by have:=L_ S3.length 30 _ Di;have q:(below S3.length (.tup [])&&(below S3.length (.tup k.cur)&&true))=true:=this;rw[Y5,Y5]at q;exact q.2.1);exact Rt.ret (oO rfl (pP (Zo (pP rfl rfl) (Zo (gK rfl dq) rfl)) rfl) (Vb 30 _ S3 Di))
  | k::k2::fs,e,et,v,rp,l=>
   have td:=t3 k k2 fs e;have ne:ts≠[]:=by rw[et,uQ];simp
   let S3:=S2++[MO.lst []]
   have nb:(!ts.isEmpty)=true:=by cases ts with
    |nil=>exact absurd rfl ne|cons a b=>rfl
   refine Rt.step (Zr (gK jn td)) ?_;have AcU:(if((_L2.length:Nat):Int)>1 then((_L2.length:Nat):Int)else 1)+1=((mV 1 _L2.length+1:Nat):Int):=by split <;>omega
   refine Rt.step ((cP (M':=S3) ((lY (M1:=S2) (Zj rfl rfl pq)).trans ((uP K rfl).trans (by rw[nb])))).trans (Zr (d:=.int ((mV 1 _L2.length+1:Nat):Int)) (M':=S3) (Zj (Zwx (Zo rfl (Zo (cQ rfl (kO (Zv I2.hr _))) rfl)) (ZqG _ _)) rfl ((Aj _ _).trans (by rw[Yw,AcU]))))) ?_;exact⟨S3,iK ((cP (M':=S3) (Zj rfl rfl (by rw[pN,decide_eq_true (by omega)]))).trans (cF (oO rfl rfl (Vb 30 _ S3 rfl))))⟩
 .obtain⟨hp,eb⟩:=I2.bad hn;have td:=t1 num eb;refine Rt.step (Zr (gK jn td)) ?_;refine Rt.step (Zq (M':=S2) (oR (Zj rfl rfl (pq.trans (by rw[decide_eq_false hn]))))) ?_;exact⟨S2,iK ((cP (M':=S2) (Zj rfl rfl (by rw[pN,decide_eq_true hp]))).trans (cF (oO rfl rfl (Vb 30 _ S2 rfl))))⟩
end _Law
set_option maxHeartbeats 400000
namespace _Law
open PySem PySem.Spec PyProof.Rows _L2 _L3
variable{P:List Yd->Prop}
theorem uZ(h:P []):∀us:List Yd,us.length=0->P us:=λus e=>(Ow e)▸h
theorem uS{n:Nat}(h:∀a us,us.length=n->P (a::us))(us:List Yd)(e:us.length=n+1):P us:=by
 cases us with
 |nil=>exact absurd e (Nat.succ_ne_zero n).symm|cons a us=>exact h a us (Qy e)
theorem mK{xa:aj}(h:∀a,P [a]):∀us:List Yd,us.length=[xa].length->P us:=uS λa=>uZ (h a)
theorem uR{xa xb:aj}(h:∀a b,P [a,b]):∀us:List Yd,us.length=[xa,xb].length->P us:=uS λa=>uS λb=>uZ (h a b)
theorem ZuD{l:PySem.W.OpenLaw}{w:aU}{K:wU}{h:au}{mg:aj->Option Yd}{fa f0 f1 f2 f3 f4 f5 f6 f7 f8 f9 Vi f11 Vj Vk Vl Vm Vn Vo Vp Vq Vr Vs Vt Vu:Ys}(X:K.In h)(G:h.Ns Yu mg)(hfa:mg "law" =Ya (.ref fa)){od0 an0 od1 an1 od2 an2 od3 an3 od4 an4 od5 an5 od6 an6 od7 an7 od8 an8 od9 an9 AcV AcW AcX AcY AcZ Ac0 Ac1 Ac2 Ac3 Ac4 Ac5 Ac6 Ac7 Ac8 Ac9 Ada Adb Adc Ade Adf Adg Adh Adi Adj Adk Adl Adm Wa:Option Ys}{sl0 sl1 sl2 sl3 Tr Tt Tu sl7 sl8 sl9 Adn Ado Adp Adq Ads Adt Adu Adv Adw Adx Ady Adz AdA AdB:Array (Option Yd)}{oc0 kV0 dc0 pm0 cd0 ct0 oc1 kV1 dc1 pm1 cd1 ct1 oc2 kV2 dc2 pm2 cd2 ct2 oc3 kV3 dc3 pm3 cd3 ct3 oc4 kV4 dc4 pm4 cd4 ct4 oc5 kV5 dc5 pm5 cd5 ct5 oc6 kV6 dc6 pm6 cd6 ct6 oc7 kV7 dc7 pm7 cd7 ct7 oc8 kV8 dc8 pm8 cd8 ct8 oc9 kV9 dc9 pm9 cd9 ct9 AdC AdD AdE AdF Wb AdG AdH AdI AdJ AdK Wc AdL AdM AdN AdO AdP Wd AdQ AdR AdS AdT AdU Wf AdV AdW AdX AdY AdZ Wg Ad0 Ad1 Ad2 Ad3 Ad4 Wh Ad5 Ad6 Ad7 Ad8 Ad9 Wi Aea Aeb Aec Aed Aee Wj Aef Aeg Aeh Aei Aej Wk Aek Ael Aem Aen Aeo Wl Aep Aeq Aer Aes Aet Wm Aeu Aev Aew Aex Aey Wn Aez AeA AeB AeC AeD Wo AeE AeF Wq Wr Ws Nj Wt:Yd}{Abx Aby AaH AaK Aal Aam AaL AaM:eG}{cL:Ys}{V2:Ys}{V3:Ys}{V7:Ys}{V4:Ys}{eZ bY iz:Ys}{Aan Mz:ClassData}{Aao Aap:aj}{Vw:Ys}{Aaq Aar:List Yd}{Aas Aat:Bool}{Aau:List aj}{Aav:Option Bool}{Aaw Aax:Option Ys}{Aay Aaz AaA AaB AaC:Option Yd}{AaD:Yd}{Mg:Array DictEntry}{AaE:Nat}{AaF:Array (Option Yd)}{Abz AbA:aj}{VN:Ys}{AbB AbC:List Yd}{AbD AbE:Bool}{AbF:List aj}{AbG:Option Bool}{AbH AbI:Option Ys}{AbJ AbK AbL AbM AbN:Option Yd}{AbO:Yd}{MF:Array DictEntry}{AbP:Nat}{AbQ:Array (Option Yd)}{VH AbR AbS AbT VJ AbU:Yd}{AbV AbW:Option Ys}{AbX:Array (Option Yd)}(VL:bG K Yu "Block" =Ya (Ya (.ref cL)))(Abl:HD K cL zY=true)(Abm:HB K cL=true)(Abn:Nu K cL=true)(Abo:Y7 K (.ref cL) "__setattr__" =Ya (Ya (.builtin "object.__setattr__")))(Abp:HF K cL=true)(Abq:fW K (.ref cL)=true)(AaG:Y7 K (.ref cL) "head" =Ya Yj)(Aah:Y7 K (.ref cL) "lists" =Ya Yj)(a0:bG K Yu "is_number" =Ya (Ya (.ref f0)))(l0:K.lookup f0=Ya ⟨oc0,od0,.func (fL "is_number" "is_number" (cO qd) (bU qd) (Zh qd) .none kV0 dc0 pm0 an0 cd0 ct0),sl0⟩)(c0:gm K cd0 "is_number" =true)(k0:fW K (.ref f0)=true)(a1:bG K Yu "sums_in" =Ya (Ya (.ref f1)))(l1:K.lookup f1=Ya ⟨oc1,od1,.func (fL "sums_in" "sums_in" (cO qe) (bU qe) (Zh qe) .none kV1 dc1 pm1 an1 cd1 ct1),sl1⟩)(c1:gm K cd1 "sums_in" =true)(k1:fW K (.ref f1)=true)(a2:bG K Yu "needs_sums" =Ya (Ya (.ref f2)))(l2:K.lookup f2=Ya ⟨oc2,od2,.func (fL "needs_sums" "needs_sums" (cO qi) (bU qi) (Zh qi) .none kV2 dc2 pm2 an2 cd2 ct2),sl2⟩)(c2:gm K cd2 "needs_sums" =true)(k2:fW K (.ref f2)=true)(a3:bG K Yu "parts_of" =Ya (Ya (.ref f3)))(l3:K.lookup f3=Ya ⟨oc3,od3,.func (fL "parts_of" "parts_of" (cO qj) (bU qj) (Zh qj) .none kV3 dc3 pm3 an3 cd3 ct3),sl3⟩)(c3:gm K cd3 "parts_of" =true)(k3:fW K (.ref f3)=true)(a4:bG K Yu "depth" =Ya (Ya (.ref f4)))(l4:K.lookup f4=Ya ⟨oc4,od4,.func (fL "depth" "depth" (cO ql) (bU ql) (Zh ql) .none kV4 dc4 pm4 an4 cd4 ct4),Tr⟩)(c4:gm K cd4 "depth" =true)(k4:fW K (.ref f4)=true)(a5:bG K Yu "is_name" =Ya (Ya (.ref f5)))(l5:K.lookup f5=Ya ⟨oc5,od5,.func (fL "is_name" "is_name" (cO qt) (bU qt) (Zh qt) .none kV5 dc5 pm5 an5 cd5 ct5),Tt⟩)(c5:gm K cd5 "is_name" =true)(k5:fW K (.ref f5)=true)(a6:bG K Yu "read_taken" =Ya (Ya (.ref f6)))(l6:K.lookup f6=Ya ⟨oc6,od6,.func (fL "read_taken" "read_taken" (cO qp) (bU qp) (Zh qp) .none kV6 dc6 pm6 an6 cd6 ct6),Tu⟩)(c6:gm K cd6 "read_taken" =true)(k6:fW K (.ref f6)=true)(a7:Y7 K (.ref cL) "__init__" =Ya (Ya (.ref f7)))(i7:HN K (.ref f7)=true)(l7:K.lookup f7=Ya ⟨oc7,od7,.func (fL "__init__" "Block.__init__" (cO yN) (bU yN) (Zh yN) .none kV7 dc7 pm7 an7 cd7 ct7),sl7⟩)(c7:gm K cd7 "Block.__init__" =true)(k7:fW K (.ref f7)=true)(a8:bG K Yu "read_sums" =Ya (Ya (.ref f8)))(l8:K.lookup f8=Ya ⟨oc8,od8,.func (fL "read_sums" "read_sums" (cO qy) (bU qy) (Zh qy) .none kV8 dc8 pm8 an8 cd8 ct8),sl8⟩)(c8:gm K cd8 "read_sums" =true)(k8:fW K (.ref f8)=true)(a9:bG K Yu "read_deed" =Ya (Ya (.ref f9)))(l9:K.lookup f9=Ya ⟨oc9,od9,.func (fL "read_deed" "read_deed" (cO qx) (bU qx) (Zh qx) .none kV9 dc9 pm9 an9 cd9 ct9),sl9⟩)(c9:gm K cd9 "read_deed" =true)(k9:fW K (.ref f9)=true)(a10:bG K Yu "can_stand" =Ya (Ya (.ref Vi)))(l10:K.lookup Vi=Ya ⟨AdC,AcV,.func (fL "can_stand" "can_stand" (cO qz) (bU qz) (Zh qz) .none AdD AdE AdF AcW Wb AdG),Adn⟩)(c10:gm K Wb "can_stand" =true)(k10:fW K (.ref Vi)=true)(a11:bG K Yu "place_deed" =Ya (Ya (.ref f11)))(l11:K.lookup f11=Ya ⟨AdH,AcX,.func (fL "place_deed" "place_deed" (cO qC) (bU qC) (Zh qC) .none AdI AdJ AdK AcY Wc AdL),Ado⟩)(c11:gm K Wc "place_deed" =true)(k11:fW K (.ref f11)=true)(a12:bG K Yu "read_deeds" =Ya (Ya (.ref Vj)))(l12:K.lookup Vj=Ya ⟨AdM,AcZ,.func (fL "read_deeds" "read_deeds" (cO qw) (bU qw) (Zh qw) .none AdN AdO AdP Ac0 Wd AdQ),Adp⟩)(c12:gm K Wd "read_deeds" =true)(k12:fW K (.ref Vj)=true)(a13:bG K Yu "read" =Ya (Ya (.ref Vk)))(l13:K.lookup Vk=Ya ⟨AdR,Ac1,.func (fL "read" "read" (cO qm) (bU qm) (Zh qm) .none AdS AdT AdU Ac2 Wf AdV),Adq⟩)(c13:gm K Wf "read" =true)(k13:fW K (.ref Vk)=true)(a14:bG K Yu "_law_same" =Ya (Ya (.ref Vl)))(l14:K.lookup Vl=Ya ⟨AdW,Ac3,.func (fL "_law_same" "_law_same" (cO qD) (bU qD) (Zh qD) .none AdX AdY AdZ Ac4 Wg Ad0),Ads⟩)(c14:gm K Wg "_law_same" =true)(k14:fW K (.ref Vl)=true)(a15:bG K Yu "_law_may" =Ya (Ya (.ref Vm)))(l15:K.lookup Vm=Ya ⟨Ad1,Ac5,.func (fL "_law_may" "_law_may" (cO qF) (bU qF) (Zh qF) .none Ad2 Ad3 Ad4 Ac6 Wh Ad5),Adt⟩)(c15:gm K Wh "_law_may" =true)(k15:fW K (.ref Vm)=true)(a16:bG K Yu "_law_stands" =Ya (Ya (.ref Vn)))(l16:K.lookup Vn=Ya ⟨Ad6,Ac7,.func (fL "_law_stands" "_law_stands" (cO qG) (bU qG) (Zh qG) .none Ad7 Ad8 Ad9 Ac8 Wi Aea),Adu⟩)(c16:gm K Wi "_law_stands" =true)(k16:fW K (.ref Vn)=true)(a17:bG K Yu "_law_drawn" =Ya (Ya (.ref Vo)))(l17:K.lookup Vo=Ya ⟨Aeb,Ac9,.func (fL "_law_drawn" "_law_drawn" (cO qH) (bU qH) (Zh qH) .none Aec Aed Aee Ada Wj Aef),Adv⟩)(c17:gm K Wj "_law_drawn" =true)(k17:fW K (.ref Vo)=true)(a18:bG K Yu "_law_row" =Ya (Ya (.ref Vp)))(l18:K.lookup Vp=Ya ⟨Aeg,Adb,.func (fL "_law_row" "_law_row" (cO qI) (bU qI) (Zh qI) .none Aeh Aei Aej Adc Wk Aek),Adw⟩)(c18:gm K Wk "_law_row" =true)(k18:fW K (.ref Vp)=true)(a19:bG K Yu "_law_deed" =Ya (Ya (.ref Vq)))(l19:K.lookup Vq=Ya ⟨Ael,Ade,.func (fL "_law_deed" "_law_deed" (cO qJ) (bU qJ) (Zh qJ) .none Aem Aen Aeo Adf Wl Aep),Adx⟩)(c19:gm K Wl "_law_deed" =true)(k19:fW K (.ref Vq)=true)(a20:bG K Yu "_law_folded" =Ya (Ya (.ref Vr)))(l20:K.lookup Vr=Ya ⟨Aeq,Adg,.func (fL "_law_folded" "_law_folded" (cO qL) (bU qL) (Zh qL) .none Aer Aes Aet Adh Wm Aeu),Ady⟩)(c20:gm K Wm "_law_folded" =true)(k20:fW K (.ref Vr)=true)(a21:bG K Yu "_law_due" =Ya (Ya (.ref Vs)))(l21:K.lookup Vs=Ya ⟨Aev,Adi,.func (fL "_law_due" "_law_due" (cO qK) (bU qK) (Zh qK) .none Aew Aex Aey Adj Wn Aez),Adz⟩)(c21:gm K Wn "_law_due" =true)(k21:fW K (.ref Vs)=true)(a22:bG K Yu "_law_told" =Ya (Ya (.ref Vt)))(l22:K.lookup Vt=Ya ⟨AeA,Adk,.func (fL "_law_told" "_law_told" (cO qM) (bU qM) (Zh qM) .none AeB AeC AeD Adl Wo AeE),AdA⟩)(c22:gm K Wo "_law_told" =true)(k22:fW K (.ref Vt)=true)(a23:bG K Yu "law" =Ya (Ya (.ref Vu)))(l23:K.lookup Vu=Ya ⟨AeF,Adm,.func (fL "law" "law" (cO mH) (bU mH) (Zh mH) .none Wq Wr Ws Wa Nj Wt),AdB⟩)(c23:gm K Nj "law" =true)(k23:fW K (.ref Vu)=true)(Acv:bG K Yu "all" =Ya Yj)(Acm:bG K Yu "bool" =Ya Yj)(AaU:bG K Yu "enumerate" =Ya Yj)(Acw:bG K Yu "int" =Ya Yj)(AaN:bG K Yu "isinstance" =Ya Yj)(Acx:bG K Yu "len" =Ya Yj)(Acn:bG K Yu "list" =Ya Yj)(Acy:bG K Yu "max" =Ya Yj)(Acb:bG K Yu "range" =Ya Yj)(Acz:bG K Yu "set" =Ya Yj)(AcA:bG K Yu "str" =Ya Yj)(Acd:bG K Yu "tuple" =Ya Yj)(uV:bG K Yu "FIGURES" =Ya (Ya (.str "0123456789" Abx)))(wL:bG K Yu "LETTERS" =Ya (Ya (.str "abcdefghijklmnopqrstuvwxyz" Aby)))(Ace:bG K Yu "LISTS" =Ya (Ya (.ref V2)))(AaV:lu K V2 nF)(wJ:bG K Yu "MOST_BLOCKS" =Ya (Ya (.int 12 AaH)))(wK:bG K Yu "MOST_DEPTH" =Ya (Ya (.int 6 AaK)))(qU:bG K Yu "MOST_FIGURES" =Ya (Ya (.int 60 Aal)))(qW:bG K Yu "MOST_LETTERS" =Ya (Ya (.int 8 Aam)))(zb:bG K Yu "MOST_TAKEN" =Ya (Ya (.int 6 AaL)))(uU:bG K Yu "MOST_WORDS" =Ya (Ya (.int 60 AaM)))(Acf:bG K Yu "PARTS" =Ya (Ya (.ref V3)))(AaW:lu K V3 nG)(Aco:bG K Yu "SUMS" =Ya (Ya (.ref V7)))(Abr:lu K V7 nH)(uF:bG K Yu "WORDS" =Ya (Ya (.ref V4)))(AaX:BL K (p_.map λy=>(⟨y.toArray⟩:aj)) (.ref V4)=true)(Aai:bG K Yu "LedgerError" =Ya (Ya (.ref eZ)))(VG:bG K Yu "BadRow" =Ya (Ya (.ref bY)))(AeG:tM K eZ=Ya Aan)(AeH:NT K (.ref eZ)=Ya (.type "type"))(AeI:HJ K (.ref eZ) (.ref eZ)=Ya true)(Ht:tM K bY=Ya Mz)(AaY:NT K (.ref bY)=Ya (.type "type"))(AeL:HJ K (.ref bY) (.ref bY)=Ya true)(Aac:K.lookup eZ=Ya (vf Aao Aap eZ Vw Aaq [.type "ValueError",.type "Exception",.type "BaseException",.type "object"] Aas Aau Aar Aat Aav Aaw Aay Aaz AaA AaB AaC "ValueError.__new__"))(Aad:K.lookup Vw=Ya ⟨AaD,Aax,.dict Mg AaE,AaF⟩)(Aae:KJ Mg=true)(Aaf:nsFind Mg "__init__" =Yj)(AaZ:K.lookup bY=Ya (vf Abz AbA bY VN AbB [.ref eZ,.type "ValueError",.type "Exception",.type "BaseException",.type "object"] AbD AbF AbC AbE AbG AbH AbJ AbK AbL AbM AbN "ValueError.__new__"))(Aa0:K.lookup VN=Ya ⟨AbO,AbI,.dict MF AbP,AbQ⟩)(Aa1:KJ MF=true)(Aa2:nsFind MF "__init__" =Ya (.ref iz))(AeM:Y7 K (.ref bY) "__init__" =Ya (Ya (.ref iz)))(Aa3:K.lookup iz=Ya ⟨VH,AbV,.func (fL "__init__" "BadRow.__init__" (cO sV) (bU sV) (Zh sV) .none AbR AbS AbT AbW VJ AbU),AbX⟩)(Aa4:gm K VJ "BadRow.__init__" =true)(Aa5:fW K (.ref iz)=true)(Aa6:VH= .type "function")(Vx:Mz.hasDict=true)(Aa7:Mz.mro= .ref bY:: .ref eZ::PySem.W.p7)(Aa8:Y7 K (.ref bY) "__setattr__" =Ya (Ya (.builtin "object.__setattr__")))(Vy:Y7 K (.ref bY) "row" =Ya Yj)(Aa9:zp K (.ref eZ) "__getattribute__" =Ya (Ya (.builtin "type.__getattribute__")))(Aba:NK K eZ (.type "type")=true)(Abb:NP K (.ref eZ) (.type "type") "__init__" =Ya (.val (.builtin "ValueError.__init__")))(Vz:Y7 K (.ref bY) "__getattribute__" =Ya (Ya (.builtin "BaseException.__getattribute__")))(VB:Y7 K (.ref bY) "__getattr__" =Ya Yj)(VD:tL K bY (.type "BaseException")=Ya true)(Abd:Y7 K (.ref bY) "__class__" =Ya (Ya (.builtin "object.__class__")))(VF:tL K bY (.type "object")=Ya true)(AcB:zp K (.builtin "object.__class__") "__get__" =Ya (Ya (.builtin "getset_descriptor.__get__")))(AcC:Nz K (.builtin "object.__class__")=Ya true)(Aaa:HJ K (.ref bY) (.type "BaseException")=Ya true)(Aaj:HJ K (.ref bY) (.ref bY)=Ya true):
  ∃fd:jl,(∀(s:Yf) (v:Yd),zF s fd ⟨[v],[]⟩ [("script",v)])/\∀base:au,K.In base->base.Ns Yu mg->fM l.prog w K mg base jK 70 fa fd ["script"] (rR K 1 ZnP):=by
 have e:=hfa.symm.trans (jF X G a23);cases e;have T:Txt K mg:=⟨trivial,n6 X G Acv,n6 X G Acm,n6 X G AaU,n6 X G Acw,n6 X G AaN,n6 X G Acx,n6 X G Acn,n6 X G Acy,n6 X G Acb,n6 X G Acz,n6 X G AcA,n6 X G Acd,⟨_,jF X G uV⟩,⟨_,jF X G wL⟩,⟨_,jF X G Ace,AaV⟩,⟨_,jF X G wJ⟩,⟨_,jF X G wK⟩,⟨_,jF X G qU⟩,⟨_,jF X G qW⟩,⟨_,jF X G zb⟩,⟨_,jF X G uU⟩,⟨_,jF X G Acf,AaW⟩,⟨_,jF X G Aco,Abr⟩,⟨_,jF X G uF,AaX⟩⟩;have di:GJ K mg cL:=⟨⟨by unfold _L3.ClsAt;rw[show(⟨([66,108,111,99,107]:List Nat).toArray⟩:aj)= "Block" by decide +kernel];exact VL,⟨Abl,Abm,Abn,Abo⟩,by decide⟩,jF X G VL,by rw[show nm [104,101,97,100]= "head" by decide +kernel];exact AaG,by rw[show nm [108,105,115,116,115]= "lists" by decide +kernel];exact Aah⟩;have MJ:ClsAt K [66,97,100,82,111,119] bY:=by unfold _L3.ClsAt;rw[show(⟨([66,97,100,82,111,119]:List Nat).toArray⟩:aj)= "BadRow" by decide +kernel];exact VG
 have AeN:Zux K bY:=⟨Vz,VB,VD,by rw[Ht];rfl,Abd,AcB,AcC,VF⟩;have XO:GK K mg eZ bY iz:=⟨jF X G Aai,jF X G VG,ZvK MJ AaZ (λh Y=>⟨_,Ztz Y Aa0 Aa1,Aa2⟩) (λh Y=>.own (Y _ _ Aac) (Ztz Y Aad Aae) Aaf (.base)) Ht Vx Aa7 Aa8 Vy VF Aa9 Aba Abb Aa3 Aa4 Aa5 Aa6 (Binds.all λus hl=>match us,hl with|[_,_],_=>rfl),Zop MJ Vz VB VD Ht Vx Vy,(ZrN (P:=λC=>NZ K (.ref C) (.ref bY)=Ya true) MJ (PySem.W.AcO Ht AaY Aaa Aaj) Zs5)⟩;have Abe:bM K mg "is_number" qd ["word"]:=gZ X G a0 l0 c0 k0 (Binds.all (mK λ_=>rfl));have AbY:bM K mg "sums_in" qe ["words"]:=gZ X G a1 l1 c1 k1 (Binds.all (mK λ_=>rfl));have AaO:bM K mg "needs_sums" qi ["word"]:=gZ X G a2 l2 c2 k2 (Binds.all (mK λ_=>rfl));have Abs:bM K mg "parts_of" qj ["words"]:=gZ X G a3 l3 c3 k3 (Binds.all (mK λ_=>rfl));have Acg:bM K mg "depth" ql ["words"]:=gZ X G a4 l4 c4 k4 (Binds.all (mK λ_=>rfl));have AbZ:bM K mg "is_name" qt ["word"]:=gZ X G a5 l5 c5 k5 (Binds.all (mK λ_=>rfl));have AaP:bM K mg "read_taken" qp ["row"]:=gZ X G a6 l6 c6 k6 (Binds.all (mK λ_=>rfl));have Aag:Kz K cL "Block.__init__" yN ["self","head"]:=Zsg Abp Abq a7 i7 l7 c7 k7 (Binds.all (uR λ_ _=>rfl));have Abf:bM K mg "read_sums" qy ["words"]:=gZ X G a8 l8 c8 k8 (Binds.all (mK λ_=>rfl));have Abg:bM K mg "read_deed" qx ["words"]:=gZ X G a9 l9 c9 k9 (Binds.all (mK λ_=>rfl));have Abh:bM K mg "can_stand" qz ["blocks","word"]:=gZ X G a10 l10 c10 k10 (Binds.all (uR λ_ _=>rfl));have AaQ:bM K mg "place_deed" qC ["blocks","deed"]:=gZ X G a11 l11 c11 k11 (Binds.all (uR λ_ _=>rfl));have AaR:bM K mg "read_deeds" qw ["rows","behind"]:=gZ X G a12 l12 c12 k12 (Binds.all (uR λ_ _=>rfl));have Acp:bM K mg "read" qm ["text"]:=gZ X G a13 l13 c13 k13 (Binds.all (mK λ_=>rfl));have Abi:bM K mg "_law_same" qD ["found","due"]:=gZ X G a14 l14 c14 k14 (Binds.all (uR λ_ _=>rfl));have Abt:bM K mg "_law_may" qF ["stack","word"]:=gZ X G a15 l15 c15 k15 (Binds.all (uR λ_ _=>rfl));have AaI:bM K mg "_law_stands" qG ["stack","word"]:=gZ X G a16 l16 c16 k16 (Binds.all (uR λ_ _=>rfl));have AaS:bM K mg "_law_drawn" qH ["cell","stack"]:=gZ X G a17 l17 c17 k17 (Binds.all (uR λ_ _=>rfl));have Abu:bM K mg "_law_row" qI ["word","cell"]:=gZ X G a18 l18 c18 k18 (Binds.all (uR λ_ _=>rfl))
 have Abj:bM K mg "_law_deed" qJ ["row"]:=gZ X G a19 l19 c19 k19 (Binds.all (mK λ_=>rfl));have AaJ:bM K mg "_law_folded" qL ["kept"]:=gZ X G a20 l20 c20 k20 (Binds.all (mK λ_=>rfl));have Abv:bM K mg "_law_due" qK ["rows"]:=gZ X G a21 l21 c21 k21 (Binds.all (mK λ_=>rfl));have Abk:bM K mg "_law_told" qM ["text"]:=gZ X G a22 l22 c22 k22 (Binds.all (mK λ_=>rfl));refine⟨fL "law" "law" (cO mH) (bU mH) (Zh mH) .none Wq Wr Ws Wa Nj Wt,λs v=>.of_eq rfl,λbase _ _=>?_⟩;have Hr:=Zkt (P:=l.prog) (w:=w) (base:=base) Abe T;have zf:=ZmG (P:=l.prog) (w:=w) (base:=base) AbY T;have Mi:=Zjc (P:=l.prog) (w:=w) (base:=base) AaO T;have Mu:=ZlC (P:=l.prog) (w:=w) (base:=base) Abs T zf;have MT:=Zqh (P:=l.prog) (w:=w) (base:=base) Acg T Mu;have tD:=Zma (P:=l.prog) (w:=w) (base:=base) AbZ T;have Ho:=Zjl (P:=l.prog) (w:=w) (base:=base) AaP T XO tD;have AeJ:=Ho.fn;have za:=Zgg (P:=l.prog) (w:=w) (base:=base) di Aag T;have Mp:=Zkj (P:=l.prog) (w:=w) (base:=base) Abf T Hr zf Mi MT tD;have Mq:=ZjZ (P:=l.prog) (w:=w) (base:=base) Abg T tD Mp;have Mr:=Zkm (P:=l.prog) (w:=w) (base:=base) Abh T di;have Mj:=Zjh (P:=l.prog) (w:=w) (base:=base) AaQ T di za;have Hq:=Zi5 (P:=l.prog) (w:=w) (base:=base) AaR T di XO za Mq Mr Mj;have AeK:=Hq.fn;have Hx:=ZrQ (P:=l.prog) (w:=w) (base:=base) Acp T Ho Hq;have AeP:=Hx.fn;have Hs:=Zj9 (P:=l.prog) (w:=w) (base:=base) Abi T;have zc:=Zlo (P:=l.prog) (w:=w) (base:=base) Abt T;have Hl:=Ziu (P:=l.prog) (w:=w) (base:=base) AaI T;have Ml:=Zji (P:=l.prog) (w:=w) (base:=base) AaS T zc;have Mv:=ZlJ (P:=l.prog) (w:=w) (base:=base) Abu T;have Ms:=ZkR (P:=l.prog) (w:=w) (base:=base) Abj T;have Mh:=ZiU (P:=l.prog) (w:=w) (base:=base) AaJ T;have Mw:=Zk9 (P:=l.prog) (w:=w) (base:=base) Abv T Ms Mh;have Mt:=Zj5 (P:=l.prog) (w:=w) (base:=base) Abk T XO Hx;exact Zuf (Zrb (st:=mH) l23 c23 k23) T Hs zc Hl Ml Mv Mw Mt
noncomputable def kN(s:Ydr):aj:=match s with
 | .FunctionDef n _ _ _ _ _ _ _ _ _=>n|_=>zY
noncomputable def kE(P:Params)(x:aj)(t:Nat)(v:Yd):DictEntry:=⟨PyData.keyHash P x,.str x t,v⟩
noncomputable def kC(n q:aj)(r t l k u:Nat):aD:=⟨.type "code",Yj,.fields #[.str n t,.str q (t+1),.str "/claim/cut.py" (t+2),.int l 0,.int k 0,.int 0 0,.int 0 0,.int 3 0,.ref r,.bool true,.int 181 0,.ref (r+1),.none,.ref (r+2),.ref (r+3),.ref (r+4),.int u 0,.int l 0,.str "/claim/cut.py" (u+1)],#[]⟩
noncomputable def kD(n q:aj)(r t l k u:Nat):aD:=⟨.type "code",Yj,.fields #[.str n t,.str q (t+1),.str "/claim/cut.py" (t+2),.int l 0,.int k 0,.int 0 0,.int 0 0,.int 3 0,.ref r,.bool true,.int 181 0,.ref (r+1),.none,.none,.none,.ref (r+2),.int u 0,.int l 0,.str "/claim/cut.py" (u+1)],#[]⟩
noncomputable def kF(s:Ydr)(n q:aj)(v m:Yd)(c:Nat):aD:=⟨.type "function",Yj,.func (fL n q (cO s) (bU s) (Zh s) v .none .none m Yj (.ref c) .none),#[]⟩
noncomputable def kM0:Yd:=.str "stepledger.errors" 187
noncomputable def kM1:Yd:=.str "stepledger.rolls" 232
noncomputable def Mf:Yd:=.str "stepledger.sums" 244
noncomputable def uT:Yd:=.str "stepledger.texts" 285
noncomputable def tu:Yd:=.str "law_stepledger_k64_whole_blocks" 429
noncomputable def k3(P:Params):aD:=⟨.type "dict",Yj,.dict #[kE P "__name__" 165 (.str "law_stepledger_k64_whole_blocks" 429),kE P "__doc__" 166 .none,kE P "__package__" 167 .none,kE P "__loader__" 168 (.builtin "__main__.__loader__#opaque"),kE P "__spec__" 169 .none,kE P "__annotations__" 170 (.ref 6),kE P "__builtins__" 171 (.ref 4),kE P "__file__" 173 (.str "/claim/cut.py" 172),kE P "__cached__" 174 .none,kE P "LedgerError" 206 (.ref 24),kE P "BadRow" 231 (.ref 44),kE P "FIGURES" 235 (.str "0123456789" 234),kE P "MOST_FIGURES" 237 (.int 60 236),kE P "is_number" 243 (.ref 51),kE P "PARTS" 258 (.ref 52),kE P "sums_in" 264 (.ref 57),kE P "needs_sums" 271 (.ref 64),kE P "parts_of" 278 (.ref 71),kE P "depth" 284 (.ref 76),kE P "LETTERS" 288 (.str "abcdefghijklmnopqrstuvwxyz" 287),kE P "MOST_LETTERS" 290 (.int 8 289),kE P "MOST_TAKEN" 292 (.int 6 291),kE P "MOST_WORDS" 294 (.int 60 293),kE P "MOST_DEPTH" 296 (.int 6 295),kE P "MOST_BLOCKS" 298 (.int 12 297),kE P "WORDS" 311 (.ref 77),kE P "SUMS" 333 (.ref 78),kE P "LISTS" 340 (.ref 79),kE P "Block" 370 (.ref 96),kE P "read" 376 (.ref 105),kE P "read_taken" 382 (.ref 110),kE P "is_name" 388 (.ref 115),kE P "read_deeds" 400 (.ref 122),kE P "read_deed" 406 (.ref 127),kE P "read_sums" 412 (.ref 132),kE P "can_stand" 422 (.ref 139),kE P "place_deed" 428 (.ref 144),kE P "_law_same" 436 (.ref 149),kE P "_law_may" 444 (.ref 156),kE P "_law_stands" 452 (.ref 163),kE P "_law_drawn" 461 (.ref 170),kE P "_law_row" 470 (.ref 177),kE P "_law_deed" 478 (.ref 184),kE P "_law_due" 489 (.ref 191),kE P "_law_folded" 501 (.ref 198),kE P "_law_told" 511 (.ref 205),kE P "law" 524 (.ref 212)] 47,#[]⟩
noncomputable def kK:Params->wU:=λP=>(nat_lit 2,⟨.none,Yj,.dict #[] 0,#[]⟩)::
 (nat_lit 3,k3 P)::
 (nat_lit 23,⟨.type "dict",Yj,.dict #[kE P "__module__" 196 (.str "stepledger.errors" 187),kE P "__firstlineno__" 200 (.int 2 199),kE P "__static_attributes__" 201 (.ref 22),kE P "__weakref__" 203 (.ref 25),kE P "__doc__" 204 .none] 3,#[]⟩)::
 (nat_lit 24,⟨.type "type",Yj,.cls ⟨"LedgerError",[.type "ValueError"],[.ref 24,.type "ValueError",.type "Exception",.type "BaseException",.type "object"],23,"LedgerError",true,[],[.ref 44],false,Yj,false⟩,#[Ya (.ref 15),Yj,Ya (.str "LedgerError" 189),Ya (.str "LedgerError" 197),Ya (.builtin "ValueError.__new__"),Ya (.bool true)]⟩)::
 (nat_lit 40,kC "__init__" "BadRow.__init__" 35 219 6 2 224)::
 (nat_lit 41,kF sV "__init__" "BadRow.__init__" .none kM0 40)::
 (nat_lit 43,⟨.type "dict",Yj,.dict #[kE P "__module__" 214 (.str "stepledger.errors" 187),kE P "__firstlineno__" 218 (.int 4 217),kE P "__init__" 226 (.ref 41),kE P "__static_attributes__" 228 (.ref 42),kE P "__doc__" 229 .none] 2,#[]⟩)::
 (nat_lit 44,⟨.type "type",Yj,.cls ⟨"BadRow",[.ref 24],[.ref 44,.ref 24,.type "ValueError",.type "Exception",.type "BaseException",.type "object"],43,"BadRow",true,[],[],false,Yj,false⟩,#[Ya (.ref 28),Yj,Ya (.str "BadRow" 207),Ya (.str "BadRow" 215),Ya (.builtin "ValueError.__new__"),Ya (.bool true)]⟩)::
 (nat_lit 50,kD (kN qd) (kN qd) 47 238 12 1 241)::
 (nat_lit 51,kF qd (kN qd) (kN qd) .none kM1 50)::
 (nat_lit 52,⟨.type "dict",Yj,.dict #[kE P "add" 246 (.int 2 247),kE P "sub" 248 (.int 2 249),kE P "more" 250 (.int 2 251),kE P "cell" 252 (.int 1 253)] 4,#[]⟩)::
 (nat_lit 56,kD (kN qe) (kN qe) 53 259 21 1 262)::
 (nat_lit 57,kF qe (kN qe) (kN qe) .none Mf 56)::
 (nat_lit 63,kC (kN qi) (kN qi) 58 265 31 1 269)::
 (nat_lit 64,kF qi (kN qi) (kN qi) .none Mf 63)::
 (nat_lit 70,kC (kN qj) (kN qj) 65 272 33 1 276)::
 (nat_lit 71,kF qj (kN qj) (kN qj) .none Mf 70)::
 (nat_lit 75,kD (kN ql) (kN ql) 72 279 35 1 282)::
 (nat_lit 76,kF ql (kN ql) (kN ql) .none Mf 75)::
 (nat_lit 77,⟨.type "tuple",Yj,.seq #[.str "take" 299,.str "set" 300,.str "put" 301,.str "tell" 302,.str "when" 303,.str "else" 304,.str "while" 305,.str "end" 306,.str "add" 307,.str "sub" 308,.str "more" 309,.str "cell" 310] 0,#[]⟩)::
 (nat_lit 78,⟨.type "dict",Yj,.dict #[kE P "set" 312 (.int 1 313),kE P "put" 314 (.int 2 315),kE P "tell" 316 (.int 1 317),kE P "when" 318 (.int 1 319),kE P "else" 320 (.int 0 321),kE P "while" 322 (.int 1 323),kE P "end" 324 (.int 0 325)] 7,#[]⟩)::
 (nat_lit 79,⟨.type "dict",Yj,.dict #[kE P "when" 334 (.int 2 335),kE P "while" 336 (.int 1 337)] 2,#[]⟩)::
 (nat_lit 92,kC "__init__" "Block.__init__" 87 353 50 2 358)::
 (nat_lit 93,kF yN "__init__" "Block.__init__" .none uT 92)::
 (nat_lit 95,⟨.type "dict",Yj,.dict #[kE P "__module__" 348 (.str "stepledger.texts" 285),kE P "__firstlineno__" 352 (.int 48 351),kE P "__init__" 360 (.ref 93),kE P "__static_attributes__" 363 (.ref 94),kE P "__dict__" 365 (.ref 97),kE P "__weakref__" 367 (.ref 98),kE P "__doc__" 368 .none] 4,#[]⟩)::
 (nat_lit 96,⟨.type "type",Yj,.cls ⟨"Block",[.type "object"],[.ref 96,.type "object"],95,"Block",true,[],[],false,Yj,false⟩,#[Yj,Yj,Ya (.str "Block" 341),Ya (.str "Block" 349),Ya (.builtin "object.__new__"),Ya (.bool true)]⟩)::
 (nat_lit 104,kD (kN qm) (kN qm) 101 371 53 1 374)::
 (nat_lit 105,kF qm (kN qm) (kN qm) .none uT 104)::
 (nat_lit 109,kD (kN qp) (kN qp) 106 377 61 1 380)::
 (nat_lit 110,kF qp (kN qp) (kN qp) .none uT 109)::
 (nat_lit 114,kD (kN qt) (kN qt) 111 383 68 1 386)::
 (nat_lit 115,kF qt (kN qt) (kN qt) .none uT 114)::
 (nat_lit 121,kC (kN qw) (kN qw) 116 389 72 2 398)::
 (nat_lit 122,kF qw (kN qw) (kN qw) .none uT 121)::
 (nat_lit 126,kD (kN qx) (kN qx) 123 401 82 1 404)::
 (nat_lit 127,kF qx (kN qx) (kN qx) .none uT 126)::
 (nat_lit 131,kD (kN qy) (kN qy) 128 407 92 1 410)::
 (nat_lit 132,kF qy (kN qy) (kN qy) .none uT 131)::
 (nat_lit 138,kC (kN qz) (kN qz) 133 413 100 2 420)::
 (nat_lit 139,kF qz (kN qz) (kN qz) .none uT 138)::
 (nat_lit 143,kD (kN qC) (kN qC) 140 423 110 2 426)::
 (nat_lit 144,kF qC (kN qC) (kN qC) .none uT 143)::
 (nat_lit 148,kD (kN qD) (kN qD) 145 431 123 2 434)::
 (nat_lit 149,kF qD (kN qD) (kN qD) .none tu 148)::
 (nat_lit 155,kC (kN qF) (kN qF) 150 437 133 2 442)::
 (nat_lit 156,kF qF (kN qF) (kN qF) .none tu 155)::
 (nat_lit 162,kC (kN qG) (kN qG) 157 445 141 2 450)::
 (nat_lit 163,kF qG (kN qG) (kN qG) .none tu 162)::
 (nat_lit 169,kC (kN qH) (kN qH) 164 453 149 2 459)::
 (nat_lit 170,kF qH (kN qH) (kN qH) .none tu 169)::
 (nat_lit 176,kC (kN qI) (kN qI) 171 462 160 2 468)::
 (nat_lit 177,kF qI (kN qI) (kN qI) .none tu 176)::
 (nat_lit 183,kC (kN qJ) (kN qJ) 178 471 167 1 476)::
 (nat_lit 184,kF qJ (kN qJ) (kN qJ) .none tu 183)::
 (nat_lit 190,kC (kN qK) (kN qK) 185 479 172 1 487)::
 (nat_lit 191,kF qK (kN qK) (kN qK) .none tu 190)::
 (nat_lit 197,kC (kN qL) (kN qL) 192 490 185 1 499)::
 (nat_lit 198,kF qL (kN qL) (kN qL) .none tu 197)::
 (nat_lit 204,kC (kN qM) (kN qM) 199 502 197 1 509)::
 (nat_lit 205,kF qM (kN qM) (kN qM) .none tu 204)::
 (nat_lit 211,kC (kN mH) (kN mH) 206 512 207 1 522)::
 (nat_lit 212,kF mH (kN mH) (kN mH) .none tu 211)::[]
end _Law
open PySem PySem.W PyProof.Rows
set_option maxRecDepth 100000 in
set_option maxHeartbeats 0 in
theorem PySem.Challenge.cw_stepledger_k64_whole_blocks_holds : PySem.Challenge.rw_stepledger_k64_whole_blocks.Holds := by
 w_on;o_law;o_head (kHook _Law.kK [nat_lit 2,nat_lit 3,nat_lit 23,nat_lit 24,nat_lit 40,nat_lit 41,nat_lit 43,nat_lit 44,nat_lit 50,nat_lit 51,nat_lit 52,nat_lit 56,nat_lit 57,nat_lit 63,nat_lit 64,nat_lit 70,nat_lit 71,nat_lit 75,nat_lit 76,nat_lit 77,nat_lit 78,nat_lit 79,nat_lit 92,nat_lit 93,nat_lit 95,nat_lit 96,nat_lit 104,nat_lit 105,nat_lit 109,nat_lit 110,nat_lit 114,nat_lit 115,nat_lit 121,nat_lit 122,nat_lit 126,nat_lit 127,nat_lit 131,nat_lit 132,nat_lit 138,nat_lit 139,nat_lit 143,nat_lit 144,nat_lit 148,nat_lit 149,nat_lit 155,nat_lit 156,nat_lit 162,nat_lit 163,nat_lit 169,nat_lit 170,nat_lit 176,nat_lit 177,nat_lit 183,nat_lit 184,nat_lit 190,nat_lit 191,nat_lit 197,nat_lit 198,nat_lit 204,nat_lit 205,nat_lit 211,nat_lit 212] (λ_=>by kernel_rfl));(case hw=>w_witness2)
 k_fill
 refine _L3.ZwO (l:=PySem.Challenge.rw_stepledger_k64_whole_blocks) (k:=70) (F:=_Law.ZnP) rfl rfl ⟨rfl,by decide,by decide⟩ (λw h Y=>W.kIn_of Y) ?G _Law.law_holds
 case G=>
  intro w mg fa h KX G hmg;refine' _Law.ZuD KX G hmg ?_ ?_ ?_ ?_ ?_ ?_ ?_ ?_ ?_ ?_ ?_ ?_ ?_ ?_ ?_ ?_ ?_ ?_ ?_ ?_ ?_ ?_ ?_ ?_ ?_ ?_ ?_ ?_ ?_ ?_ ?_ ?_ ?_ ?_ ?_ ?_ ?_ ?_ ?_ ?_ ?_ ?_ ?_ ?_ ?_ ?_ ?_ ?_ ?_ ?_ ?_ ?_ ?_ ?_ ?_ ?_ ?_ ?_ ?_ ?_ ?_ ?_ ?_ ?_ ?_ ?_ ?_ ?_ ?_ ?_ ?_ ?_ ?_ ?_ ?_ ?_ ?_ ?_ ?_ ?_ ?_ ?_ ?_ ?_ ?_ ?_ ?_ ?_ ?_ ?_ ?_ ?_ ?_ ?_ ?_ ?_ ?_ ?_ ?_ ?_ ?_ ?_ ?_ ?_ ?_ ?_ ?_ ?_ ?_ ?_ ?_ ?_ ?_ ?_ ?_ ?_ ?_ ?_ ?_ ?_ ?_ ?_ ?_ ?_ ?_ ?_ ?_ ?_ ?_ ?_ ?_ ?_ ?_ ?_ ?_ ?_ ?_ ?_ ?_ ?_ ?_ ?_ ?_ ?_ ?_ ?_ ?_ ?_ ?_ ?_ ?_ ?_ ?_ ?_ ?_ ?_ ?_ ?_ ?_ ?_ ?_ ?_ ?_ ?_ ?_ ?_ ?_ ?_ ?_ ?_ ?_
  all_goals try k_is
  all_goals first|rfl|decide +kernel
