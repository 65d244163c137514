import PyProof.Rows.All
import Wide.All
import OpenK.AllK
import Wide.FinOn
import Lean
import PyProof.EqAt
import PyProof.EqKinds
import PyProof.TupleCall
import PySem.Challenge.RW_stepledger_k63_bad_rows
noncomputable section
open Option renaming some->O,none->Yj,isSome_iff_exists->Ho,map_eq_some_iff->Mu,map_some->Ti,isSome_some->HZ,getD_none->H0,bind_some->Ic
open PySem.W renaming Frag->Yb,findIn->fJ,subIn->gC,clsIn->mW,kia_one->qt,emptyDict->wC,mg_none_of->o8,keepIn->sZ,nsIn->d7,typeIn->uQ,fnOf->q8,instObj->yq,mg_of->jf,mroIn->wD,kitAny->yr,specialIn->D_,hideAll_get->Hq,codeIn->Ea,hasDictIn->Mv,plainGet->Mw,makesIn->Mx,callWith_K->Tj,methodObj->Tn,plainOver->Tp,cellsFrom_some->Iq,takerIn->Tq,isFn->Mz,takesIn->Tr,readsIn->Tt,findCls->Tu,hideAll_none->Iy,lookIn->Tv,kitOne->Tw,exmOne->Tz,of_hideAll->IA,kitx_tuple->IB,kitx_none->IC,kitx_list->ID,kitx_dict->IE,Frag->wF,handedIn->IF,hideAll->IG,WalkO->II,mg_of->Yoi,keepIn->MF,fnOf->Hr,codeIn->TF
open PySem renaming wpAny_bind->Yc,Value->Yh,Shared->Yl,wpAny_pure->Yr,starEach->Yv,Addr->Yy,mainGlobals->Y7,Program->Y9,wpAny->aq,sizeLine->bI,model->aA,wpAny_holding->fW,Around->bG,World->aQ,wpAny_mono->gD,bootBuiltins->jY,compareOp->gM,keywordEach->jL,wpAny_loadPart'->uR,backTo->b8,wpAny_truthy_bool->tu,codeAny_call_builtin->wG,mem_of_lookup->wH,attributeBase->o9,wpAny_callSpecial?_slot->Al,wpAny_newObj_type->uT,assignEach->kJ,Heap->aH,eval->aO,wpAny_pyIter_list->yt,wpAny_field->o_,wpAny_standAt->tD,binaryOp->jM,FuncData->lJ,wpAny_Call_Name_kw->Am,backToKw->jN,wpAny_call_entry->yu,codeAny_mono->tE,foldedSetIterable->Ao,codeAny_builtin->yw,strValues->nT,Stmt->Ydv,wpAny_passesOwn->Aq,wpAny_call->q9,wpAny_comprehension_free->MJ,wpAny_pyIter_enum->Eb,wpAny_loadPart_at->Ec,sizeLine_eq->uU,checkBuiltinCall->Ed,treeTable->qw,codeAny->kO,importedModules->Ef,behindInMarks->Ar,call_meets->uV,wpAny_letOwnedTupleGo_enum->TJ,swapsWith->tG,excClassObj->yx,wpAny_execs_nil->Hs,letOwnedTupleGo->Ht,wpAny_pyIter_tuple->MK,strLen_append->Eg,assign->kW,plainObj_wpAny_Assign_Attribute->IJ,sliceBounds->Av,slicePicked->Aw,wpAny_seqItems->Hu,wpAny_setField->Hv,wpAny_tryCatch->Hw,wpAny_attempt->Hx,plainId_quiet->Hy,getAttrByItsOwn->MN,rawInt->nU,wpAny_loadPart->MP,getItem->tH,intText?->MT,boundAndCalled->M_,wpAny_assign_Name->TQ,Result->ph,wpAny_sequenceKey->TV,typeIs_str->Eh,wpAny_pyNext_enum_itemD->IL,wpAny_point->Hz,noFill_tuple_add->TX,wpAny_pyNext_list_item->IM,codeAny_compStart_list->IP,wpAny_storeName_local->IQ,holding->wI,wpAny_pyNext_list_end->IS,cLine->lK,wpAny_typeOf->Nb,wpAny_specialOf->TY,exec_Assign_Name_used->IT,codeAny_of_tree->T4,weight_type_call_type->IU,wpAny_updateSeq->T5,isInstance->HB,wpAny_newFunctionEnv->IX,unbindBehindTheSuite->IY,newFunctionEnv->T6,subscripted->Nf,callerA->yC,relabel->yD,wpAny_of_eq->Ng,dictGet->yE,wpAny_letGo->Nh,wpAny_isSubtype_exc->IZ,swapsWithSole->T7,swappedStores->T8,seq_tuple_add->T9,noteFrame->HD,callWith->Ei,wpAny_missed_other->I0,wpAny_rule->Ni,wpAny_dictEntries->Jn,Within->T_,pyNext->wJ,concat_meets->Ua,seqIndex_neg->Ub,wpAny_mkText->Uc,wpAny_pyHash_int->JA,wpAny_pyHash_str->JE,wpAny_execs_cons->JI,wpAny_lookBehind->JJ,pastItsLine_dict->JO,wpAny_isInstance->JU,callGetattribute->JY,compEnvC->HF,standAt->Ej,BindsTo->Ek,seqIndex_of->Ud,valueAt->El,wpAny_stack_any->Kb,wpAny_dictEpoch->Ki,builtinsNs->Ue,wpAny_Name->Ug,typeLookup->Uh,typeIs_int->Ui,call->Uj,IsEnum->Ax,spliced->HJ,getAttr->HN,compPost->Nj,contains->Nk,PassesOwn->Uk,pyIter->Em,cellsFrom->Ul,seqIndex?->Um,scanBound->Uo,unaryOp->Nm,setAttr->BS,evalAll->Np,bindL->yF,bindC->yG,leaving->Nq,atKey->yH,newList->Nr,Str->aj,Obj->aK,Env->dz,Sem->nW,Pos->a_,Tok->gq
open List renaming length_append->Yd,mem_cons_self->Ye,mem_cons_of_mem->Yf,getElem?_eq_some_iff->Yg,getElem?_append_left->Yk,length_map->Ym,mem_cons->Yo,length_cons->Yp,replicate->Yq,getElem?_set_ne->Ys,size_toArray->Yt,map_cons->Yw,mem_singleton->Yx,getElem?_eq_getElem->Y0,prefix_append->Y1,mem_append_right->Y2,getElem?_set_self->Y4,length_singleton->Y8,map_append->fX,mem_append->gF,getElem?_map->jg,append_assoc->ju,append_nil->iD,all_eq_true->jh,nil_append->jw,length_replicate->pq,lookup_cons->kY,mem_append_left->pB,length_take->lM,getElem?_append_right->uW,nodup_cons->lO,take_of_length_le->tL,set_cons_succ->qx,set_cons_zero->qy,all_cons->lQ,drop_eq_getElem_cons->yI,mem_map_of_mem->tM,mem_map->kZ,getElem?_take_of_lt->yJ,flatten_cons->q_,not_mem_nil->rm,mem_of_mem_take->wK,any_cons->nY,range->jO,replicate_succ->wL,foldl_cons->rA,getElem_mem->tO,length_set->tQ,getElem?_replicate_of_lt->HS,map_map->pC,mem_of_getElem?->Ay,Nodup->Znt,getD_eq_getElem?_getD->HW,reverse_cons->yK,eq_nil_of_length_eq_zero->Nt,cons_append->yL,mem_flatMap->yM,append_eq_nil_iff->HX,length_drop->Az,map_nil->uX,range'->tR,ext_getElem?->Eo,getElem?_replicate->Nu,getElem?_cons_succ->Nv,take_succ_cons->HY,getElem?_cons_zero->Nx,length_reverse->H_,drop_eq_nil_of_le->Ny,find?_cons->Ep,length_nil->Er,getElem?_eq_none->Nz,map_take->A_,map_reverse->Ia,length->yN,map_eq_nil_iff->NK,drop_succ_cons->NP,mem_filterMap->NQ,lookup->Ba,eraseIdxIfInBounds_toArray->Kj,nodup_append->NT,drop_zero->Ib,dropLast_eq_take->Uq,take_append_drop->Ur,drop_length->NZ,take_append_of_le_length->Kk,length_dropLast->Us,getElem?_of_mem->Ut,dropLast_subset->Uu,length_take_le'->Uv,mem_of_mem_drop->Uw,dropLast_concat_getLast->Kn,filterMap_cons->Ux,isPrefixOf->N5,exists_cons_of_ne_nil->Kt,set_set->Ie,contains_cons->Uy,take_sublist->Uz,length_range->UG,foldl_append->UJ,flatMap_cons->UL,prefix_iff_eq_take->Kx,getElem?_set_self'->KA,getLast?_replicate->KG,take_length->UT,mem_reverse->UV,range_succ_eq_map->KI,of_mem_zip->UW,getElem?_toArray->KL,reverse_reverse->KO,range_eq_range'->KP,mem_range->U0,take_left->U3,take_take->U4,map_congr_left->KS,foldl->N6,mem_range'_1->KU,map_dropLast->KW,all_nil->U5,map_id'->U6,getElem_inj->Lc,mem_flatten->Ll,range'_succ->Lm,prefix_refl->Lo,mem_filter->Lu,nodup_nil->Lv,drop_left->LA,take_succ->LB,map_drop->LD,length->B,toArray->kb
open Nat renaming le_trans->Yi,le_refl->Yu,lt_of_lt_of_le->Y5,le_antisymm->fY,le_add_right->iG,ne_of_lt->d8,le_of_not_lt->k_,zero_le->g_,succ_le_succ->pD,le_of_eq->lR,add_comm->l_,lt_of_le_of_lt->uY,lt_trans->mX,le_succ_of_le->u0,add_assoc->u5,lt_irrefl->wM,le_succ->tU,lt_succ_self->Es,zero_add->yO,le_of_ble_eq_true->N7,min_eq_left->Et,lt_add_right->Ig,ne_of_gt->Bb,sub_add_cancel->N8,lt_succ_of_le->N_,ble->qz,lt_of_not_le->Oa,le_add_left->Ob,le_of_lt->Ih,beq->tV,toDigits_of_lt_base->LF,min_eq_right->U7,succ_ne_self->U8,sub_eq_zero_of_le->LG,toDigits->Oc,strongRecOn->U9,add_zero->Od,add_le_add_right->LH,mul_le_mul_left->LI,pos_of_ne_zero->LJ,add_sub_cancel->LL,le_of_lt_succ->LM,min_le_right->LN,min_le_left->LO,zero_lt_one->LP,toList_repr->LU,not_lt_zero->LV,add_le_add->LW,sub_le->U_,not_lt->Va
open PySem.Heap renaming get?_push_of_some->Yn,lt_size->Y3,get?_push_size->Y6,get?_update_other->pF,get?_update_self->yP,size_push->yQ,get?_none_of_le->Oe,SameBut->Eu,get?_push_at->Vb,get?_update_ne->LX,ExtBut->Vc
open Classical renaming propDecidable->Yz
open Option.some renaming inj->fM,injEq->LY
open Bool renaming and_eq_true->gO,false_ne_true->mY,and_false->mj,and_eq_true_iff->Ybi,false_eq_true->yR,or_eq_true->yS,false_and->yU,beq_eq_decide_eq->Og,not_eq_true'->Vd,or_false->Oh,and_true->Oi,eq_iff_iff->Ve,eq_false_iff->LZ,not_eq_true->L7,false_or->L8
open False renaming elim->fZ
open Ne renaming symm->cu
open List.cons renaming inj->lu,injEq->L9
open Int renaming toNat_natCast->u6,emod_lt_of_pos->wN,le_antisymm->tW,emod_nonneg->tX,toNat_of_nonneg->Ii,natCast_nonneg->Oj,self_le_toNat->Ol,not_le->Bc,le_of_eq->Ij,zero_add->Ik,le_of_lt->Om,add_zero->Oo,natCast_mul->Vf,lt_of_lt_of_le->Mb,ofNat_le->Vg,mul_zero->Vh,sub_zero->Vi,ofNat_lt->Vj,min_eq_left->Md,natCast_add->Me,mul_add->Vk
open PySem.Builtin.List renaming listTooLong->Ew
open PyProof.Rows renaming slot_tuple_getitem->Oq,callWith_type1->Vl,slot_tupleiter_next->Ot,callWith_builtin1->Mn,signs_ofString->Mo,envOfC->nZ,evalArgs_kwB->MA,kindOf->pG,AllBare->u9,subscriptTail_builtinR->MB,entry_tupleiter_next->MC,entry_tuple_getitem->MD,args_tupleiter_next->ME,args_tuple_getitem->MG,subscriptTail->Vm,Subscript_->Vn
open PySem.Str renaming ofString->rC,length->n6,empty->Ey
open PyProof.Rows.KTD renaming datumAt->qC,TabOf->tY,tab_of_look->MH
open PySem.Builtin.Str renaming occurrences->Il,strSliceIndices->Ou,partsBetween->MI,tooLong->ML,strKind->MM
open PySem.NumText renaming digitsVal->Im
open PyProof.Rows.F renaming plain_set_update_loop->Vo,entry_set_update_loop->MQ
open Array renaming getElem?_eq_some_iff->Ov,length_toList->Ow,getElem?_setIfInBounds_ne->MR,toList->Ez,getElem?_toList->Vp,mem_of_getElem?->MS,mem_toList_iff->MU,append_assoc->MV
open PySem.F renaming plain_max_loop->Bd,slot_enumerate_next->Ox,args_tuple_add_2->Vq,entry_tuple_add->Vr,plainAttrs_list->Vs,slot_tuple_add->Vt,plainAttrs_str->Vu,slot_dict_get->Vv,slot_dict_contains->MW,excBase_ValueError->MX,args_str_split_2->Vw,slot_dict_getitem->MY,entry_str_split->Vx,args_enumerate_next_1->MZ,args_dict_get_3->Na,slot_str_split->Vy,entry_max_loop->Vz,entry_enumerate_next->Nc,entry_dict_get->Nd,entry_enumerate_new->Nl,args_list_extend_2->Nn,entry_list_extend->Nw,slot_list_extend->NA,called_enumerate->NB,entry_list_pop->NC,slot_list_pop->ND,slot_int_rmul->NF,entry_bexc_ga->NG,args_bexc_ga->NH
open PySem.Builtin.Slice renaming slicePlaces->Oz,sliceAdjust->VB,sliceApplied->NI
open Decidable renaming byContradiction->OD
open PySem.Builtin.SmallTypes renaming nextOf->OJ
open PySem.Around renaming under_plainId->Io,under->O1,under_plain->NJ
open PySem.Builtin.Tuple renaming tupleExact->O2,tupleItemsOf->NL
open PySem.Obj renaming data_mapFields->Ip,mapFields->Be,isFreed_of_fields->VD,mapSeq->Bf,cls_mapFields->NM
open PySem.Code renaming quiet_builtin->A1,isFrame->VF
open Int.ofNat renaming inj->Bg
open PySem.SeqAt renaming EqAt->wO,in_listAt->NN
open PySem.SeqAt.EqAt renaming str_int->O4,int_str->VG,same->VH,none_bool->NO,bool_none->NR,bool_bool->NS,none_int->NU,none_str->NV,bool_int->NW,bool_str->NX,int_none->NY,int_bool->N0,str_none->N1,str_bool->N2,int_int->N3,str_str->N4
open PySem.Calls renaming callWith_builtin->VJ,evalArgs_plain->VL,Name_function_global->N9,spliced_cons->VN,spliced_nil->Of
open PySem.SeqAt.RcNeAt renaming lists_lengths->Oy
open ToString renaming toString->yV
open OfNat renaming ofNat->Ir
open Eq renaming trans->yW
open PySem.Heap.SameBut renaming update->OA
open PySem.EntryCells renaming newEntry->OB
open PySem.Builtin.Dict renaming missed->OC
open Prod.mk renaming injEq->VP
open PySem.Heap.Ns1 renaming of_empty->OE
open PySem.SeqAt.RcAt renaming tuples->OF
open PySem.Walks renaming list->O5
open Nat.succ renaming inj->VR
open PySem.Txt renaming split->OG,startswith->OH
open PySem.PassesOwn renaming never->OI
open Char renaming toNat->VV
open PySem.Paired renaming length->OK
open Prod renaming ext->V0
open Min renaming min->gw
theorem aaA{p:Prop}(h:p:=by decide):p:=h
theorem i9{p:Prop}(h:p:=by simp):p:=h
theorem b5{p:Prop}(h:p:=by omega):p:=h
theorem aaD{p:Prop}(h:p:=by kernel_rfl):p:=h
theorem aaE{p:Prop}(h:p:=by decide +kernel):p:=h
theorem c_{c:Prop}{_:Decidable c}(h:c){α:Sort _}{a b:α}:ite c a b=a:=if_pos h
theorem d4{c:Prop}{_:Decidable c}(h:¬c){α:Sort _}{a b:α}:ite c a b=b:=if_neg h
theorem j3{p:Prop}[Decidable p](h:¬p):decide p=false:=decide_eq_false h
theorem j2{p:Prop}[Decidable p](h:p):decide p=true:=decide_eq_true h
theorem k9{a b:Prop}(h:a)(n:¬a):b:=absurd h n
theorem J{α:Sort _}{a:α}:a=a:=rfl
theorem _root_.r0{p:Prop}(h:p:=by simp;omega):p:=h
theorem _root_.A2{p:Prop}(h:p:=by rw[Yt];omega):p:=h
theorem _root_.vi{p:Prop}(h:p:=by intro e;cases e):p:=h
abbrev c6(s:Yl):=s.heap.objs.size
abbrev BU:List String:=["enumerate","zip","dict_itemiterator","dict_reverseitemiterator","odict_iterator","itertools.zip_longest","itertools.pairwise"]
open Lean in
def rp:Nat->Syntax->MacroM (TSyntax `rcasesPat)
|0,_=>Macro.throwUnsupported
|n+1,s=>match s with
|`($x:ident)=>`(rcasesPat|$x:ident)
|`(_)=>`(rcasesPat|_)
|`(⟨$a,*⟩)=>do
 let b<-a.getElems.mapM λz=>do `(Parser.Tactic.rcasesPatLo|$(<-rp n z):rcasesPat)
 `(rcasesPat|⟨$b,*⟩)
|_=>Macro.throwUnsupported
local macro_rules
|`(tactic|let $p:term:=$e)=>do `(tactic|obtain $(<-rp 9 p):rcasesPat:=$e)
namespace L3
set_option compiler.extract_closed false
set_option genSizeOf false in
set_option genInjectivity false in
inductive AE where
 |v (i:Nat)
 |k (n:Nat)
 |a (x y:AE)
 |m (n:Nat) (x:AE)
def O6:List Nat->Nat->Nat
 |[],_=>0|x::_,0=>x|_::l,n+1=>O6 l n
def AE.ev(c:List Nat):AE->Nat
 | .v i=>O6 c i|.k n=>n|.a x y=>x.ev c+y.ev c|.m n x=>n*x.ev c
def aL:List Nat->List Nat->List Nat
 |[],r=>r|x::l,[]=>x::l|x::l,y::r=>(x+y)::aL l r
def sL(n:Nat):List Nat->List Nat
 |[]=>[]|x::l=>(n*x)::sL n l
def uL:Nat->List Nat
 |0=>[1]|n+1=>0::uL n
def AE.li:AE->List Nat
 | .v i=>0::uL i|.k n=>[n]|.a x y=>aL x.li y.li|.m n x=>sL n x.li
def dt:List Nat->List Nat->Nat
 |x::c,y::l=>x*y+dt c l|[],_=>0|_,[]=>0
def EY:List Nat->List Nat->Bool
 |[],_=>true|x::l,[]=>qz x 0&&EY l []|x::l,y::r=>qz x y&&EY l r
def rD:∀c,dt c []=0
 |[]=>rfl|_::_=>rfl
theorem u_:∀c l r,dt c (aL l r)=dt c l+dt c r
 |c,[],r=>by rw[rD,yO];rfl|c,x::l,[]=>by rw[rD];rfl|[],x::l,y::r=>rfl|z::c,x::l,y::r=>by show z*(x+y)+dt c (aL l r)=_;rw[u_ c l r,Nat.mul_add];exact Nat.add_add_add_comm _ _ _ _
theorem Iu(n:Nat):∀c l,dt c (sL n l)=n*dt c l
 |c,[]=>by rw[rD];exact rD c|[],x::l=>rfl|z::c,x::l=>by show z*(n*x)+dt c (sL n l)=n*(z*x+dt c l);rw[Iu n c l,Nat.mul_add,Nat.mul_left_comm]
theorem OL:∀c i,dt c (uL i)=O6 c i
 |[],0=>rfl|[],_+1=>rfl|x::c,0=>by show x*1+dt c []=x;rw[rD,Nat.mul_one];rfl|x::c,n+1=>by show x*0+dt c (uL n)=O6 c n;rw[OL c n,Nat.mul_zero,yO]
theorem Iv:∀c l r,EY l r=true->dt c l<=dt c r
 |c,[],r,_=>by rw[rD];exact g_ _|[],x::l,r,_=>g_ _|z::c,x::l,[],h=>by have h:=(gO _ _).mp h;have e:x=0:=Nat.le_zero.1<|N7 h.1;have i:=Iv c l [] h.2;rw[rD]at i;show z*x+dt c l<=0;rw[e,Nat.le_zero.1 i];exact Yu 0|z::c,x::l,y::r,h=>
  have h:=(gO _ _).mp h
  LW (LI z<|N7 h.1) (Iv c l r h.2)
theorem AE.gZ(c:List Nat):∀e:AE,dt (1::c) e.li=e.ev c
 | .v i=>(yO _).trans (OL c i)|.k n=>by show 1*n+dt c []=n;rw[rD,Nat.one_mul];rfl|.a x y=>(u_ _ _ _).trans (congr (congrArg _<|x.gZ c)<|y.gZ c)|.m n x=>(Iu n _ _).trans<|congrArg _<|x.gZ c
def cX:Nat->Nat->AE×Nat
 |0,s=>(.k 0,s)|f+1,s=>bif qz (s % 16) 9 then(.v<|s % 16,s / 16)else bif tV (s % 16) 10 then(.k 1,s / 16)
  else bif tV (s % 16) 11 then(.k<|s / 256 % 16^(s / 16 % 16),s / 256 / 16^(s / 16 % 16))
  else bif tV (s % 16) 12 then(.a (cX f<|s / 16).1 (cX f (cX f<|s / 16).2).1,(cX f (cX f<|s / 16).2).2)
  else bif tV (s % 16) 13 then(.m (s / 16 % 256) (cX f<|s / 4096).1,(cX f<|s / 4096).2)
  else(.k 0,s / 16)
def Iw:Nat->Nat->Nat->Prop
 |0,x,y=>x<=y|1,x,y=>x<y|2,x,y=>x=y|3,x,y=>x=y
 |4,x,y=>¬x<=y|5,x,y=>¬x<y|_,_,_=>False
def V1:Nat->AE->AE->List Nat
 |0,x,_=>x.li|1,x,_=>aL [1] x.li|2,x,_=>x.li|4,_,y=>aL [1] y.li
 |_,_,y=>y.li
def Iz:Nat->AE->AE->List Nat
 |0,_,y=>y.li|1,_,y=>y.li|2,_,y=>y.li|_,x,_=>x.li
def O7(c:List Nat):Nat->Nat->Prop
 |0,s=>Iw (s % 16) ((cX 9<|s / 16).1.ev c) ((cX 9 (cX 9<|s / 16).2).1.ev c)|n+1,s=>Iw (s / 16 % 16) ((cX 9<|s / 256).1.ev c) ((cX 9 (cX 9<|s / 256).2).1.ev c)->O7 c n (cX 9 (cX 9<|s / 256).2).2
def gN:Nat->AE->AE->List Nat->List Nat->Bool
 |0,x,y,L,R=>EY (aL R x.li) (aL L y.li)|1,x,y,L,R=>EY (aL [1]<|aL R x.li) (aL L y.li)|_,_,_,L,R=>EY (aL [1] R) L
def O8:Nat->Nat->List Nat->List Nat->Bool
 |0,s,L,R=>gN (s % 16) (cX 9<|s / 16).1 (cX 9 (cX 9<|s / 16).2).1 L R|n+1,s,L,R=>O8 n (cX 9 (cX 9<|s / 256).2).2 (aL L<|sL (s % 16)<|V1 (s / 16 % 16) (cX 9<|s / 256).1 (cX 9 (cX 9<|s / 256).2).1)<|aL R<|sL (s % 16)<|Iz (s / 16 % 16) (cX 9<|s / 256).1 (cX 9 (cX 9<|s / 256).2).1
def O9(c l:List Nat):dt (1::c) (aL [1] l)=dt (1::c) l+1:=by rw[u_];show 1*1+dt c []+_=_;rw[rD];exact l_ _ _
def Zxa(c:List Nat)(x y:AE):∀r,Iw r (x.ev c) (y.ev c)->dt (1::c) (V1 r x y)<=dt (1::c) (Iz r x y)
 |0,h=>by show dt _ x.li<=dt _ y.li;rwa[x.gZ,y.gZ]|1,h=>by show dt _ (aL [1] x.li)<=dt _ y.li;rwa[O9,x.gZ,y.gZ]|2,h=>by show dt _ x.li<=dt _ y.li;rw[x.gZ,y.gZ];exact lR h|3,h=>by show dt _ y.li<=dt _ x.li;rw[x.gZ,y.gZ];exact lR h.symm
 |4,h=>by show dt _ (aL [1] y.li)<=dt _ x.li;rw[O9,x.gZ,y.gZ];exact Oa h|5,h=>by show dt _ y.li<=dt _ x.li;rw[x.gZ,y.gZ];exact k_ h|_+6,h=>h.elim
def ZzS(c:List Nat)(x y:AE)(L R:List Nat)(h:dt (1::c) L<=dt (1::c) R):∀r,gN r x y L R=true->Iw r (x.ev c) (y.ev c)
 |0,k=>by have e:=Iv (1::c) _ _ k;rw[u_,u_,x.gZ,y.gZ]at e;exact Nat.le_of_add_le_add_left (Yi e<|LH h _)|1,k=>by have e:=Iv (1::c) _ _ k;rw[O9,u_,u_,x.gZ,y.gZ]at e;exact Nat.lt_of_add_lt_add_left (Yi e<|LH h _)|r+2,k=>by have e:=Iv (1::c) _ _ k;rw[O9]at e;exact k9 (Yi e h)<|Nat.not_succ_le_self _
theorem OM(c:List Nat):∀(n s:Nat) (L R:List Nat),dt (1::c) L<=dt (1::c) R->O8 n s L R=true->O7 c n s
 |0,s,L,R,h,k=>ZzS c _ _ L R h _ k|n+1,s,L,R,h,k=>λg=>OM c n _ _ _ (by rw[u_,u_,Iu,Iu];exact LW h<|LI _<|Zxa c _ _ _ g) k
end L3
def Zpn(c:List Nat)(n s:Nat)(h:L3.O8 n s [] []=true):L3.O7 c n s:=L3.OM c n s [] [] (Yu _) h
def O_(a b:Nat):a<=a-b+b:=Nat.le_add_of_sub_le<|Yu _
def T1:true=true:=rfl
def lI{a b c d e f g h i:Nat}(n s:Nat)(y:L3.O8 n s [] []=true):L3.O7 [a,b,c,d,e,f,g,h,i] n s:=Zpn _ n s y
def ON(w:Int):max w 0=(w.toNat:Int):=(Int.ofNat_toNat w).symm
def OO(v:Int)(n:Nat)(h:¬v<0):gw v (n:Int)=((gw v.toNat n:Nat):Int):=by
 let⟨k,rfl⟩:=Int.eq_ofNat_of_zero_le<|Int.not_lt.1 h;rcases Nat.le_total k n with z|z
 .rw[Md<|Vg.2 z];exact congrArg Int.ofNat (Et z).symm
 .rw[Int.min_eq_right<|Vg.2 z];exact congrArg Int.ofNat (U7 z).symm
def V2(v:Int)(n:Nat)(h:v<0):max 0 (gw (v+(n:Int)) (n:Int))=((v+(n:Int)).toNat:Int):=by rw[Md<|Om<|Mb (Int.add_lt_add_right h _)<|Ij<|Ik _,Int.max_comm];exact ON _
def V3(v:Int)(n:Nat)(h:¬v<0):max 0 (gw v (n:Int))=((gw v.toNat n:Nat):Int):=by rw[OO v n h];exact Int.max_eq_right<|Oj _
namespace L3
set_option genSizeOf false in
set_option genInjectivity false in
inductive AI where
 |v (i:Nat)
 |k (n:Nat)
 |c (e:AE)
 |a (x y:AI)
 |s (x y:AI)
 |g (x:AI)
 |m (n:Nat) (x:AI)
def IK:List Int->Nat->Int
 |[],_=>0|x::_,0=>x|_::l,n+1=>IK l n
def AI.ev(c:List Nat)(d:List Int):AI->Int
 | .v i=>IK d i|.k n=>Int.ofNat n|.c e=>((e.ev c:Nat):Int)|.a x y=>x.ev c d+y.ev c d
 | .s x y=>x.ev c d-y.ev c d|.g x=>-x.ev c d|.m n x=>Int.ofNat n*x.ev c d
def pL(u w:List Nat×List Nat):List Nat×List Nat:=(aL u.1 w.1,aL u.2 w.2)
def AI.li:AI->Bool->List Nat×List Nat
 | .v i,b=>bif b then([],uL i)else([],[])|.k n,b=>bif b then([n],[])else([],[])|.c e,b=>bif b then(e.li,[])else([],[])|.a x y,b=>pL (x.li b)<|y.li b
 | .s x y,b=>pL (x.li b) (y.li<|!b)|.g x,b=>x.li (!b)|.m n x,b=>(sL n (x.li b).1,sL n (x.li b).2)
def jx:List Int->List Nat->Int
 |x::c,y::l=>x*(y:Int)+jx c l|[],_=>0|_,[]=>0
def dI(c:List Nat)(d:List Int)(u:List Nat×List Nat):Int:=((dt (1::c) u.1:Nat):Int)+jx d u.2
def OP(p q r s:Int):p+q+(r+s)=p+r+(q+s):=by omega
def yX:∀c,jx c []=0
 |[]=>rfl|_::_=>rfl
theorem OQ:∀c l r,jx c (aL l r)=jx c l+jx c r
 |c,[],r=>by rw[yX,Ik];rfl|c,x::l,[]=>by rw[yX,Oo];rfl|[],x::l,y::r=>rfl|z::c,x::l,y::r=>by show z*((x+y:Nat):Int)+jx c (aL l r)=(z*x+jx c l)+(z*y+jx c r);rw[OQ c l r,Me,Vk];exact OP _ _ _ _
theorem OR(n:Nat):∀c l,jx c (sL n l)=Int.ofNat n*jx c l
 |c,[]=>by rw[yX,Vh];exact yX c|[],x::l=>(Vh _).symm|z::c,x::l=>by show z*((n*x:Nat):Int)+jx c (sL n l)=Int.ofNat n*(z*x+jx c l);rw[OR n c l,Vk,Vf,Int.mul_left_comm];rfl
theorem OS:∀c i,jx c (uL i)=IK c i
 |[],0=>rfl|[],_+1=>rfl|x::c,0=>by show x*1+jx c []=x;rw[yX,Int.mul_one,Oo]|x::c,n+1=>by show x*0+jx c (uL n)=IK c n;rw[OS c n,Vh,Ik]
section
variable (c:List Nat) (d:List Int)
def Pa(u w:List Nat×List Nat):dI c d (pL u w)=dI c d u+dI c d w:=by show((dt (1::c) (aL u.1 w.1):Nat):Int)+jx d (aL u.2 w.2)=_;rw[u_,OQ,Me];exact OP _ _ _ _
def OT(n:Nat)(u:List Nat×List Nat):dI c d (sL n u.1,sL n u.2)=Int.ofNat n*dI c d u:=by show((dt (1::c) (sL n u.1):Nat):Int)+jx d (sL n u.2)=_;rw[Iu,OR,Vf];exact(Vk _ _ _).symm
def V4:dI c d ([],[])=0:=by show((dt (1::c) []:Nat):Int)+jx d []=0;rw[rD,yX];rfl
def Zwo(p q r s:Int):p-q+(r-s)=p+r-(q+s):=by omega
def Zwn(p q r s:Int):p-q-(r-s)=p+s-(q+r):=by omega
theorem AI.gZ:∀e:AI,e.ev c d=dI c d (e.li true)-dI c d (e.li false)
 | .v i=>by show IK d i=dI c d ([],uL i)-dI c d ([],[]);rw[V4,Vi];show _=((dt (1::c) []:Nat):Int)+jx d (uL i);rw[rD,OS];exact(Ik _).symm|.k n=>by show Int.ofNat n=dI c d ([n],[])-dI c d ([],[]);rw[V4,Vi];show _=((dt (1::c) [n]:Nat):Int)+jx d [];rw[yX,Oo];show _=((1*n+dt c []:Nat):Int);rw[rD,Nat.one_mul];rfl|.c e=>by show((e.ev c:Nat):Int)=dI c d (e.li,[])-dI c d ([],[]);rw[V4,Vi];show _=((dt (1::c) e.li:Nat):Int)+jx d [];rw[yX,Oo,e.gZ]|.a x y=>by show x.ev c d+y.ev c d=dI c d (pL (x.li true)<|y.li true)-dI c d (pL (x.li false)<|y.li false);rw[Pa,Pa,x.gZ,y.gZ];exact Zwo _ _ _ _
 | .s x y=>by show x.ev c d-y.ev c d=dI c d (pL (x.li true)<|y.li false)-dI c d (pL (x.li false)<|y.li true);rw[Pa,Pa,x.gZ,y.gZ];exact Zwn _ _ _ _|.g x=>by show -x.ev c d=dI c d (x.li false)-dI c d (x.li true);rw[x.gZ];exact Int.neg_sub _ _|.m n x=>by show Int.ofNat n*x.ev c d=dI c d (sL n (x.li true).1,sL n (x.li true).2)-dI c d (sL n (x.li false).1,sL n (x.li false).2);rw[OT,OT,x.gZ];exact Int.mul_sub _ _ _
def cI(x y:AI):List Nat×List Nat:=pL (x.li true)<|y.li false
def OU(u:List Nat×List Nat):List Nat×List Nat:=(aL [1] u.1,u.2)
def Ad8:Nat->Int->Int->Prop
 |0,x,y=>x<=y|1,x,y=>x<y|2,x,y=>x=y|3,x,y=>x=y
 |4,x,y=>¬x<=y|5,x,y=>¬x<y|_,_,_=>False
def loI:Nat->AI->AI->List Nat×List Nat
 |0,x,y=>cI x y|1,x,y=>OU (cI x y)|2,x,y=>cI x y|4,x,y=>OU<|cI y x
 |_,x,y=>cI y x
def hiI:Nat->AI->AI->List Nat×List Nat
 |0,x,y=>cI y x|1,x,y=>cI y x|2,x,y=>cI y x|_,x,y=>cI x y
end
def iH:Nat->Nat->AI×Nat
 |0,s=>(.k 0,s)|f+1,s=>bif qz (s % 16) 7 then(.v<|s % 16,s / 16)else bif tV (s % 16) 8 then(.c (cX 9<|s / 16).1,(cX 9<|s / 16).2)
  else bif tV (s % 16) 9 then(.g (iH f<|s / 16).1,(iH f<|s / 16).2)else bif tV (s % 16) 10 then(.k 1,s / 16)
  else bif tV (s % 16) 11 then(.k<|s / 256 % 16^(s / 16 % 16),s / 256 / 16^(s / 16 % 16))
  else bif tV (s % 16) 12 then(.a (iH f<|s / 16).1 (iH f (iH f<|s / 16).2).1,(iH f (iH f<|s / 16).2).2)
  else bif tV (s % 16) 13 then(.m (s / 16 % 256) (iH f<|s / 4096).1,(iH f<|s / 4096).2)
  else bif tV (s % 16) 14 then(.k 0,s / 16)else(.s (iH f<|s / 16).1 (iH f (iH f<|s / 16).2).1,(iH f (iH f<|s / 16).2).2)
def hP(c:List Nat)(d:List Int)(r s:Nat):Prop:=bif qz 8 r then Ad8 (r-8) ((iH 9 s).1.ev c d) ((iH 9 (iH 9 s).2).1.ev c d)else Iw r ((cX 9 s).1.ev c) ((cX 9 (cX 9 s).2).1.ev c)
def hR(r s:Nat):Nat:=bif qz 8 r then(iH 9 (iH 9 s).2).2 else(cX 9 (cX 9 s).2).2
def hL(r s:Nat):List Nat×List Nat:=bif qz 8 r then loI (r-8) (iH 9 s).1 (iH 9 (iH 9 s).2).1 else(V1 r (cX 9 s).1 (cX 9 (cX 9 s).2).1,[])
def hH(r s:Nat):List Nat×List Nat:=bif qz 8 r then hiI (r-8) (iH 9 s).1 (iH 9 (iH 9 s).2).1 else(Iz r (cX 9 s).1 (cX 9 (cX 9 s).2).1,[])
end L3
set_option Elab.async false
set_option linter.all false
set_option maxRecDepth 100000
namespace L2
open PySem PySem.Spec PyProof.Rows
abbrev Key:=Sum Int aj
def OV:Key->Yh->Bool
 | .inl k,v=>Value.isInt k v|.inr x,v=>Value.isStrOf x v
def Ad9(w:aQ):Key->Int
 | .inl k=>hashInt k|.inr x=>hashStr w x
def wQ:∀{k:Key} {v:Yh},OV k v=true->(∃i t,k=Sum.inl i/\v=Value.int i t)\/(∃x t,k=Sum.inr x/\v=Value.str x t)
 | .inl i,v,h=>by let⟨t,e⟩:=Value.isInt_shape (k:=i) (v:=v) h;exact .inl ⟨i,t,rfl,e⟩|.inr x,v,h=>by let⟨t,e⟩:=Value.isStrOf_shape (x:=x) (v:=v) h;exact .inr ⟨x,t,rfl,e⟩
def Zx7(a b:Int):decide ((Sum.inl a:Key)=Sum.inl b)=(a==b):=by
 by_cases e:a=b
 .subst e;simp
 .have h:¬(Sum.inl a:Key)=Sum.inl b:=λq=>e<|Sum.inl.inj q;rw[j3 h];exact(beq_eq_false_iff_ne.mpr e).symm
def Zyb(a b:aj):decide ((Sum.inr a:Key)=Sum.inr b)=decide (a=b):=by
 by_cases e:a=b
 .subst e;simp
 .have h:¬(Sum.inr a:Key)=Sum.inr b:=λq=>e<|Sum.inr.inj q;rw[j3 h,j3 e]
def ZwN(a:Int)(b:aj):decide ((Sum.inl a:Key)=Sum.inr b)=false:=j3 nofun
def ZwT(a:aj)(b:Int):decide ((Sum.inr a:Key)=Sum.inl b)=false:=j3 nofun
def OW(prog:Y9)(w:aQ):PySem.KeyKind prog w Key where
 is:=OV
 hash:=Ad9 w
 inj:=λv a b ha hb=>by
  rcases wQ ha with⟨i,t,rfl,rfl⟩|⟨x,t,rfl,rfl⟩
  .rcases wQ hb with⟨j,u,rfl,e⟩|⟨y,u,rfl,e⟩
   .injection e with e1 _;rw[e1]
   .exact nomatch e
  .rcases wQ hb with⟨j,u,rfl,e⟩|⟨y,u,rfl,e⟩
   .exact nomatch e
   .injection e with e1 _;rw[e1]
 byValue:=λk v h=>by rcases wQ h with⟨i,t,rfl,rfl⟩|⟨x,t,rfl,rfl⟩<;>rfl
 pyHash:=λhv h=>by
  rcases wQ hv with⟨i,t,rfl,rfl⟩|⟨x,t,rfl,rfl⟩
  .exact JA h
  .exact JE h
 eqBool:=λhu hv h=>by
  rcases wQ hu with⟨i,t,rfl,rfl⟩|⟨x,t,rfl,rfl⟩
  .rcases wQ hv with⟨j,u,rfl,rfl⟩|⟨y,u,rfl,rfl⟩
   .rw[Zx7]at h;exact wpAny_eqBool_int h
   .rw[ZwN]at h;exact VG i t y u _ _ _ _ h
  .rcases wQ hv with⟨j,u,rfl,rfl⟩|⟨y,u,rfl,rfl⟩
   .rw[ZwT]at h;exact O4 x t j u _ _ _ _ h
   .rw[Zyb]at h;exact wpAny_eqBool_str h
 «strs»:=λk x t v h=>by
  rcases wQ h with⟨i,u,rfl,e⟩|⟨y,u,rfl,e⟩
  .exact nomatch e
  .injection e with e1 _
   subst e1;cases v<;>rfl
end L2
namespace L2
open PySem PySem.Spec PyProof.Rows
inductive V where
 |Z|bl (b:Bool)|int (i:Int)|str (x:aj)|E_ (b:Array UInt8)|zh (b:UInt64)|ref (a:Yy)|ty (n:String)
 deriving DecidableEq
def RelV:V->Yh->Prop
 | .Z,u=>u=Value.none|.bl b,u=>u=Value.bool b|.int i,u=>∃t,u=Value.int i t|.str x,u=>∃t,u=Value.str x t
 | .E_ b,u=>∃t,u=Value.bytes b t|.zh b,u=>∃t,u=Value.float b t|.ref a,u=>u=Value.ref a|.ty n,u=>u=Value.type n
abbrev Vals:List V->List Yh->Prop:=Paired RelV
def Vals.length{xs:List V}{us:List Yh}(r:Vals xs us):B xs=B us:=OK r
theorem Vals.get:∀{xs:List V} {us:List Yh} {i:Nat} {x:V},Vals xs us->xs[i]?=O x->∃u,us[i]?=O u/\RelV x u
 |_,_,_,_,.nil,e=>by simp at e|_,_,0,_,.cons r _,e=>by simp at e;subst e;exact⟨_,rfl,r⟩|_,_,i+1,x,.cons _ t,e=>by let⟨u,h1,h2⟩:=Vals.get (i:=i) (x:=x) t (by simpa using e);exact⟨u,by simpa using h1,h2⟩
theorem Vals.set{x:V}{u:Yh}(r:RelV x u):∀{xs:List V} {us:List Yh} (i:Nat),Vals xs us->Vals (xs.set i x) (us.set i u)
 |_,_,_,.nil=>.nil|_,_,0,.cons _ t=>.cons r t|_,_,i+1,.cons q t=>.cons q<|Vals.set r i t
theorem Vals.append:∀{xs ys:List V} {us ws:List Yh},Vals xs us->Vals ys ws->Vals (xs++ys) (us++ws)
 |_,_,_,_,.nil,s=>s|_,_,_,_,.cons r t,s=>.cons r<|Vals.append t s
theorem Vals.take:∀{xs:List V} {us:List Yh} (n:Nat),Vals xs us->Vals (xs.take n) (us.take n)
 |_,_,0,_=>.nil|_,_,_+1,.nil=>.nil|_,_,n+1,.cons r t=>.cons r<|Vals.take n t
theorem Vals.drop:∀{xs:List V} {us:List Yh} (n:Nat),Vals xs us->Vals (xs.drop n) (us.drop n)
 |_,_,0,r=>r|_,_,_+1,.nil=>.nil|_,_,n+1,.cons _ t=>Vals.drop n t
def qD:Option V->Option Yh->Prop
 |some v,O u=>RelV v u|none,Yj=>True|_,_=>False
def KV{κ:Type}:List (κ×V)->List (κ×Yh)->Prop:=Paired λ(p:κ×V) (q:κ×Yh)=>p.1=q.1/\RelV p.2 q.2
def kV:Key->V
 | .inl i=>.int i|.inr x=>.str x
inductive HO where
 |L (xs:List V)
 |U (xs:List V)
 |dK (d5:List (Key×V))|dT (d5:List (List Key×V))
 |set (S:Int->Bool) (n:Nat)
 |ins (C dx:Yy) (fs:List (aj×V))
 |own (x:Yy)
 |xd (fs:List (aj×V))
 |met (f x:Yy)
 |Pb (lo hi:Int)
 |cY (o:aK) (u:HO)
 |yZ (ps:Array Yh)
 |ext (φ:aH->Prop)
abbrev Hp:=Yy->Option HO
def upd(H:Hp)(a:Yy)(o:HO):Hp:=λb=>if b=a then O o else H b
variable{H:Hp}
def iw{a:Yy}{o:HO}:upd H a o a=O o:=by unfold upd;rw[c_ J]
def bH{a b:Yy}{o:HO}(h:b≠a):upd H a o b=H b:=by unfold upd;rw[d4 h]
def vf{a b:Yy}{o:HO}(h:H a=O o)(h':H b=Yj):a≠b:=by intro e;subst e;rw[h]at h';cases h'
section
variable (P:Y9) (w:aQ)
def vg(h:aH)(a:Yy)(items:Array Yh):Prop:=∃o,h.get? a=O o/\(o.cls= .type "tuple" /\o.dict=Yj)/\∃n,o.data= .seq items n
def vg.U{h:aH}{a:Yy}{items:Array Yh}(x:vg h a items):IsTup h a items:=let⟨o,e,c,d⟩:=x;⟨o,e,c.1,d⟩
def vg.new(h:aH)(items:Array Yh):vg (h.push {cls:=.type "tuple",data:=.seq items}) h.objs.size items:=⟨_,Y6 _ J,⟨rfl,rfl⟩,0,rfl⟩
def d9(H:Hp)(h:aH)(a:Yy):HO->Prop
 | .L xs=>B xs<=bI/\∃(b6:List Yh) (n:Nat),Vals xs b6/\h.get? a=O {cls:=.type "list",data:=.seq b6.toArray n}|.U xs=>B xs<=bI/\∃b6:List Yh,Vals xs b6/\vg h a b6.toArray|.dK d5=>B d5<=bI/\(a==sysModules)=false/\∃vs,KV d5 vs/\h.DictOf (OW P w) a vs|.dT d5=>B d5<=bI/\(a==sysModules)=false/\∃xs:List (List Key×Yy×Yh),
   Paired (λ(p:List Key×V) (q:List Key×Yy×Yh)=>p.1=q.1/\H q.2.1=O (.U<|p.1.map kV)/\RelV p.2 q.2.2) d5 xs/\
   ∃o es ep,h.get? a=O o/\o.ExactDict/\o.data= .dict es ep/\es.toList=xs.map (entryOfKey<|tupleKind<|OW P w)/\(xs.map (·.1)).Nodup
 | .set S n=>h.SetOf (intKind P w) a S n|.ins C dx fs=>H dx=O (.own a)/\fs.length<=1000/\dx≠a/\h.get? a=O (yq C dx)/\
   ∃mA,h.Ns1 dx mA/\(∀f,qD (fs.lookup f)<|mA f)/\T_ mA (fs.map (·.1))
 | .own _=>∃o,h.get? a=O o|.xd fs=>∃mA,h.Ns1 a mA/\∀f,qD (fs.lookup f) (mA f)|.Pb lo hi=>∃t u v,h.get? a=O {cls:=.type "range",data:=.fields #[.int lo t,.int hi u,.int 1 v]}|.cY o u=>h.get? a=O o/\d9 H h a u
 | .yZ ps=>h.get? a=O {cls:=.none,data:=.fields ps}|.met f x=>h.get? a=O (Tn (.ref f)<|.ref x)|.ext φ=>φ h/\(∃o,h.get? a=O o)/\∀h1 h2:aH,φ h1->(∀o,h1.get? a=O o->h2.get? a=O o)->φ h2
def gP(H:Hp)(h:aH):Prop:=∀a o,H a=O o->d9 P w H h a o
end
section
variable {P:Y9} {w:aQ} {H H':Hp} {h h':aH} {a:Yy} {o:HO}
def d9.lt(x:d9 P w H h a o):a<h.objs.size:=by
 cases o with
 |L xs=>let⟨_,_,_,_,e⟩:=x;exact Y3 e|U xs=>let⟨_,_,_,p⟩:=x;exact p.U.lt|dK d5=>let⟨_,_,_,_,o,_,_,e,_⟩:=x;exact Y3 e|dT d5=>let⟨_,_,_,_,o,_,_,e,_⟩:=x;exact Y3 e
 |set S n=>let⟨o,_,_,_,e,_⟩:=x;exact Y3 e|ins C dx fs=>let⟨_,_,_,e,_⟩:=x;exact Y3 e|own y=>let⟨_,e⟩:=x;exact Y3 e|xd fs=>let⟨_,⟨_,_,_,e,_⟩,_⟩:=x;exact Y3 e
 |Pb lo hi=>let⟨_,_,_,e⟩:=x;exact Y3 e|cY ob u=>let⟨e,_⟩:=x;exact Y3 e|yZ ps=>exact Y3 (show h.get? a=O _ from x)|met f y=>exact Y3 (show h.get? a=O _ from x)
 |ext φ=>let⟨_,⟨_,e⟩,_⟩:=x;exact Y3 e
theorem Paired.SM{α β:Type}{F G:α->β->Prop}:∀{l₁:List α} {l₂:List β},Paired F l₁ l₂->(∀a b,F a b->G a b)->Paired G l₁ l₂
 |_,_,.nil,_=>.nil|_,_,.cons r t,f=>.cons (f _ _ r)<|Paired.SM t f
def d9.rf(x:d9 P w H h a o)(k:∀b u,(b=a\/H b=O (.own a))->h.get? b=O u->h'.get? b=O u)(ho:∀b,H b=O (.own a)->H' b=O (.own a))(ht:∀b xs,H b=O (.U xs)->H' b=O (.U xs)):d9 P w H' h' a o:=by
 induction o with
 |L xs=>let⟨z,b6,n,r,e⟩:=x;exact⟨z,b6,n,r,k _ _ (.inl J) e⟩|U xs=>let⟨z,b6,r,ob,e,c⟩:=x;exact⟨z,b6,r,ob,k _ _ (.inl J) e,c⟩|dK d5=>let⟨z,y,vs,r,ob,es,ep,e,c⟩:=x;exact⟨z,y,vs,r,ob,es,ep,k _ _ (.inl J) e,c⟩|dT d5=>let⟨z,y,xs,r,ob,es,ep,e,c⟩:=x;exact⟨z,y,xs,Paired.SM r λp q z=>⟨z.1,ht _ _ z.2.1,z.2.2⟩,ob,es,ep,k _ _ (.inl J) e,c⟩
 |set S n=>let⟨ob,es,ep,t,e,c⟩:=x;exact⟨ob,es,ep,t,k _ _ (.inl J) e,c⟩|ins C dx fs=>let⟨d,z,ne,e,mA,⟨od,es,ep,e2,c⟩,r⟩:=x;exact⟨ho _ d,z,ne,k _ _ (.inl J) e,mA,⟨od,es,ep,k _ _ (.inr d) e2,c⟩,r⟩
 |own y=>let⟨ob,e⟩:=x;exact⟨ob,k _ _ (.inl J) e⟩|xd fs=>let⟨mA,⟨od,es,ep,e,c⟩,r⟩:=x;exact⟨mA,⟨od,es,ep,k _ _ (.inl J) e,c⟩,r⟩|Pb lo hi=>let⟨t,u,v,e⟩:=x;exact⟨t,u,v,k _ _ (.inl J) e⟩|cY ob u ih=>let⟨e,q⟩:=x;exact⟨k _ _ (.inl J) e,ih q⟩
 |yZ ps=>have e:h.get? a=O {cls:=.none,data:=.fields ps}:=x;show h'.get? a=O {cls:=.none,data:=.fields ps};exact k a _ (.inl J) e|met f y=>have e:h.get? a=O (Tn (.ref f)<|.ref y):=x;show h'.get? a=O (Tn (.ref f)<|.ref y);exact k a _ (.inl J) e|ext φ=>let⟨p,⟨o,e⟩,st⟩:=x;exact⟨st _ _ p λo q=>k _ _ (.inl J) q,⟨o,k _ _ (.inl J) e⟩,st⟩
def gP.lt(x:gP P w H h)(e:H a=O o):a<h.objs.size:=(x a o e).lt
def gP.fresh(x:gP P w H h)(e:h.objs.size<=a):H a=Yj:=by
 cases q:H a with
 |none=>rfl|some u=>exact k9 (Y5 (x.lt q) e)<|wM _
def gP.kept(x:gP P w H h)(k:∀b u,h.get? b=O u->h'.get? b=O u):gP P w H h':=λa o e=>(x a o e).rf (λb u _ q=>k b u q) (λ_ q=>q) λ_ _ q=>q
def gP.laid(x:gP P w H h)(k:∀b u,h.get? b=O u->h'.get? b=O u)(hp:h.objs.size<=a)(new:d9 P w (upd H a o) h' a o):gP P w (upd H a o) h':=λb u e=>by
 have hn:=x.fresh hp;by_cases hb:b=a
 .subst hb;rw[iw]at e;cases e;exact new
 .rw[bH hb]at e;exact(x b u e).rf (λc v _ q=>k c v q) (λc q=>by rwa[bH<|vf q hn]) λc xs q=>by rwa[bH<|vf q hn]
end
def Rd(H:Hp)(a:Yy)(u:HO):Prop:=H a=O u\/∃o,H a=O (.cY o u)
def Rd.ok{P:Y9}{w:aQ}{h:aH}{a:Yy}{u:HO}(r:Rd H a u)(x:gP P w H h):d9 P w H h a u:=by
 rcases r with r|⟨o,r⟩
 .exact x a u r
 .let⟨_,q⟩:=x a _ r;exact q
def Pg:Option HO->Prop
 |some (.L _)=>True|some (.dK _)=>True|some (.dT _)=>True|some (.set _ _)=>True
 |some (.ins _ _ _)=>True|some (.ext _)=>True|_=>False
section
variable {P:Y9} {w:aQ} {H:Hp} {h h':aH} {x e:Yy} {o':HO}
def gP.write(ok:gP P w H h)(mu:Pg (H x))(he:e=x\/H e=O (.own x))(k:∀b u,b≠e->h.get? b=O u->h'.get? b=O u)(AL:∃u,h'.get? e=O u)(new:d9 P w (upd H x o') h' x o'):gP P w (upd H x o') h':=λb u q=>by
 have OX:∀c y,H c=O (.own y)->c≠x:=λc y r z=>by subst z;rwa[r]at mu
 have Aea:∀c xs,H c=O (.U xs)->c≠x:=λc xs r z=>by subst z;rwa[r]at mu
 by_cases hb:b=x
 .subst hb;rw[iw]at q;cases q;exact new
 .rw[bH hb]at q;by_cases w8:b=e
  .have q':H b=O (.own x):=by
    rcases he with z|z
    .exact k9 (w8.trans z) hb
    .rwa[w8]
   rw[q]at q';cases q';let⟨v,hv⟩:=AL;exact⟨v,by rwa[w8]⟩
  .refine(ok b u q).rf (λc v hc r=>k c v ?_ r) (λc r=>by rwa[bH<|OX c b r]) λc xs r=>by rwa[bH<|Aea c xs r]
   rcases hc with rfl|hc
   .exact w8
   .rintro rfl;rcases he with z|z
    .exact OX c b hc z
    .rw[hc]at z;cases z;exact hb J
end
structure Un(fs ex:List Yy)(H H':Hp)(h h':aH):Prop where
 keep:∀b o,h.get? b=O o->H b=Yj->b∉fs->b∉ex->h'.get? b=O o
 slot:∀b o,h.get? b=O o->H b=Yj->b∈fs->b∉ex->∃sl,h'.get? b=O {o with slots:=sl}
 free:∀b o,h.get? b=O o->H b=Yj->b∉ex->H' b=Yj
 there:∀b o,h.get? b=O o->b∉ex->∃o',h'.get? b=O o'
 rg:∀b xs,H b=O (.U xs)->H' b=O (.U xs)
 mQ:∀b o u,H b=O (.cY o u)->H' b=O (.cY o u)
 nR:∀b ps,H b=O (.yZ ps)->∃more,H' b=O (.yZ<|ps++more)
section
variable {fs rL ex OY:List Yy} {H H1 H2:Hp} {h h1 h2 h':aH} {a x e:Yy} {o:HO}
def Un.any(u:Un fs ex H H1 h h1){b:Yy}{ob:aK}(q:h.get? b=O ob)(n:H b=Yj)(hx:b∉ex):∃sl,h1.get? b=O {ob with slots:=sl}:=by
 by_cases hb:b∈fs
 .exact u.slot b ob q n hb hx
 .exact⟨ob.slots,u.keep b ob q n hb hx⟩
def Un.trans(a:Un fs ex H H1 h h1)(b:Un fs ex H1 H2 h1 h2):Un fs ex H H2 h h2 where
 keep:=λc ob q n hc hx=>b.keep c ob (a.keep c ob q n hc hx) (a.free c ob q n hx) hc hx
 slot:=λc ob q n hc hx=>by let⟨sl,e1⟩:=a.slot c ob q n hc hx;let⟨BY,e2⟩:=b.slot c _ e1 (a.free c ob q n hx) hc hx;exact⟨BY,e2⟩
 free:=λc ob q n hx=>by let⟨o',e1⟩:=a.there c ob q hx;exact b.free c o' e1 (a.free c ob q n hx) hx
 there:=λc ob q hx=>by let⟨o',e1⟩:=a.there c ob q hx;exact b.there c o' e1 hx
 rg:=λc xs q=>b.rg c xs<|a.rg c xs q
 mQ:=λc ob xs q=>b.mQ c ob xs<|a.mQ c ob xs q
 nR:=λc ps q=>by let⟨m1,e1⟩:=a.nR c ps q;let⟨m2,e2⟩:=b.nR c _ e1;exact⟨m1++m2,by rw[e2,MV]⟩
def Un.kept(k:∀b u,h.get? b=O u->h'.get? b=O u):Un fs ex H H h h':=⟨λb ob q _ _ _=>k b ob q,λb ob q _ _ _=>⟨ob.slots,k b ob q⟩,λ_ _ _ n _=>n,λb ob q _=>⟨ob,k b ob q⟩,λ_ _ q=>q,λ_ _ _ q=>q,λ_ ps q=>⟨#[],by rw[q];simp⟩⟩
def Un.refl:Un fs ex H H h h:=Un.kept λ_ _ q=>q
def Un.laid(k:∀b u,h.get? b=O u->h'.get? b=O u)(hp:h.objs.size<=a)(hn:H a=Yj):Un fs ex H (upd H a o) h h' where
 keep:=λb u q _ _ _=>k b u q
 slot:=λb u q _ _ _=>⟨u.slots,k b u q⟩
 free:=λb u q n _=>by rwa[bH<|d8<|Y5 (Y3 q) hp]
 there:=λb u q _=>⟨u,k b u q⟩
 rg:=λb xs q=>by rwa[bH<|vf q hn]
 mQ:=λb u xs q=>by rwa[bH<|vf q hn]
 nR:=λb ps q=>⟨#[],by rw[bH<|vf q hn,q];simp⟩
def Un.write(mu:Pg (H x))(he:e=x\/H e=O (.own x))(k:∀b u,b≠e->h.get? b=O u->h'.get? b=O u)(AL:∃u,h'.get? e=O u):Un fs ex H (upd H x o) h h':=by
 have hx:∀b,H b=Yj->b≠x:=λb n z=>by subst z;rwa[n]at mu
 have hb:∀b,H b=Yj->b≠e:=λb n z=>by
  subst z;rcases he with r|r
  .exact hx b n r
  .rw[n]at r;cases r
 have hm:∀b u,H b=O u->¬Pg (O u)->b≠x:=λb u q nm z=>by subst z;rw[q]at mu;exact nm mu
 refine⟨λb u q n _ _=>k b u (hb b n) q,λb u q n _ _=>⟨u.slots,k b u (hb b n) q⟩,λb u q n _=>by rwa[bH<|hx b n],λb u q _=>?_,
  λb xs q=>by rwa[bH<|hm b _ q λz=>z],λb u xs q=>by rwa[bH<|hm b _ q λz=>z],λb ps q=>⟨#[],by rw[bH<|hm b _ q λz=>z,q];simp⟩⟩
 by_cases w8:b=e
 .subst w8;exact AL
 .exact⟨u,k b u w8 q⟩
def Un.mono(u:Un fs ex H H1 h h1)(hs:∀b∈fs,b∈rL)(hx:∀b∈ex,b∈OY):Un rL OY H H1 h h1:=⟨λb ob q n hb he=>u.keep b ob q n (λz=>hb<|hs b z) λz=>he<|hx b z,λ_ _ q n _ he=>u.any q n λz=>he<|hx _ z,λb ob q n he=>u.free b ob q n λz=>he<|hx b z,λb ob q he=>u.there b ob q λz=>he<|hx b z,u.rg,u.mQ,u.nR⟩
end
def Bh(h:aH)(H:Hp):List Yy:=(jO h.objs.size).filter λa=>(H a).isSome
def wR(h:aH)(H:Hp):aH:=IG h<|Bh h H
def Zqh(h:aH)(H:Hp):(wR h H).objs.size=h.objs.size:=PySem.W.hideAll_size _ _
def Zso{h:aH}{b:Yy}{o:aK}(e:h.get? b=O o)(n:H b=Yj):(wR h H).get? b=O o:=Hq _ e λhm=>by have q:(H b).isSome=true:=(Lu.mp hm).2;rw[n]at q;simp at q
def ZvM{h:aH}{b:Yy}{o:aK}(e:(wR h H).get? b=O o):h.get? b=O o/\H b=Yj:=by
 have e':h.get? b=O o:=IA (Bh h H) e;refine⟨e',?_⟩;cases q:H b with
 |none=>rfl|some x=>have hm:b∈Bh h H:=Lu.mpr ⟨U0.mpr<|Y3 e',by simp[q]⟩;have z:(wR h H).get? b=Yj:=Iy (Bh h H) hm;rw[z]at e;cases e
def Zve(g h:aH)(L:Yy):List (Yy×aK):=(jO h.objs.size).filterMap λa=>if a=L\/(g.get? a).isSome=true then Yj else(h.get? a).map λo=>(a,o)
def rest(g h:aH)(L d:Yy):List (Yy×aK):=(Zve g h L).filter λp=>decide<|p.1≠d
end L2
namespace L2
open PySem PySem.Spec PyProof.Rows
structure Mod(K:Yb)(mg:aj->Option Yh)(base:aH):Prop where
 Bj:K.In base
 glob:base.Ns Y7 mg
 blt:∃mb,base.Ns Ue mb/\∀x:aj,x≠ "__name__" ->mb x=jY x
 nolimit:base.NoLimit
structure Cx where
 prog:Y9
 w:aQ
 K:Yb
 mg:aj->Option Yh
 base:aH
 A:bG
 N:List aj
 s₀:Yl
 H₀:Hp
 env:dz
 outer:List dz
 stack:List dz
 ex:List Yy
 fn:aj->Bool
 calm:Bool
 pn:List (Yy×aK)
 xe:Yh->Yl->Prop
def sR(l:List dz):List Yy:=l.filterMap (·.frame)
abbrev Cx.fs(X:Cx):List Yy:=sR X.outer
def Ph(sc:Scope)(x:aj):Prop:=sc.names.lookup x=O .local\/sc.names.lookup x=O .cell\/sc.names.lookup x=O .free
def Loc(sc:Scope)(x:aj):Prop:=sc.names.lookup x=O .local\/sc.names.lookup x=O .cell
def Look(env:dz)(h:aH)(m:aj->Option Yh)(x:aj)(u:Yh):Prop:=(env.kindOf x=O .local/\m x=O u)\/((env.kindOf x=O .cell\/env.kindOf x=O .free)/\∃c,env.cells.lookup x=O c/\h.IsCell c (O u))
structure Cx.Ok(X:Cx):Prop where
 mod:Mod X.K X.mg X.base
 kind:X.env.scope.kind= .function
 glob:X.env.globals=Y7
 blt:X.env.builtins=Ue
 above:c6 X.s₀<=X.env.locals
 inj:∀x y c,X.env.cells.lookup x=O c->X.env.cells.lookup y=O c->x=y
 has:∀x,(X.env.kindOf x=O .cell\/X.env.kindOf x=O .free)->∃c,X.env.cells.lookup x=O c
 zk:∀x c,X.fn x=true->X.env.cells.lookup x=O c->c6 X.s₀<=c
 hd:X.calm=true->X.A.handled=Yj
 frames:X.A.frames=O X.stack
 iI:X.stack=X.outer\/(X.stack=X.env::X.outer/\X.env.frame=O X.env.locals)
 Fd:∀b∈X.ex,b≠X.env.locals/\∀x c,X.env.cells.lookup x=O c->c≠b
 bs:∀b o,X.base.get? b=O o->X.s₀.heap.get? b=O o/\X.H₀ b=Yj
 qF:X.base.objs.size<=c6 X.s₀
 Aj:∀b o,X.base.get? b=O o->b∉X.ex
 yh:∀b∈X.ex,b∉X.fs
 mR:X.s₀.heap.FunFrames X.base X.outer
 tZ:∀b∈X.fs,X.H₀ b=Yj
structure Inv(X:Cx)(b4:List (Yy×aK))(σ:List (Option V))(H:Hp)(s:Yl):Prop where
 ok:X.Ok
 os:s.os=X.s₀.os
 bare:u9 s.gens
 base:Un X.fs X.ex X.H₀ H X.s₀.heap s.heap
 loc:∃m,s.heap.Ns X.env.locals m/\∀(i:Nat) (x:aj) (v:V),X.N[i]?=O x->σ[i]?=O (O v)->Ph X.env.scope x->∃u,RelV v u/\Look X.env s.heap m x u
 cell:∀x c,X.env.cells.lookup x=O c->∃v,s.heap.IsCell c v
 free:H X.env.locals=Yj
 mO:∀x c,X.env.cells.lookup x=O c->H c=Yj
 pin:∀p∈X.pn++b4,s.heap.get? p.1=O p.2/\H p.1=Yj/\p.1≠X.env.locals/\p.1∉X.fs/\∀v,p.2.data≠ .cell v
 i6:gP X.prog X.w H s.heap
 len:B σ=X.N.length
variable{E:Yh->Yl->Prop}{ch:List Yy}{t':Nat}
section
variable {X:Cx} {b4:List (Yy×aK)} {σ:List (Option V)} {H H':Hp} {s:Yl} {h':aH}
def Cx.Ok.Aeb(ok:X.Ok){b:Yy}{o:aK}(e:X.base.get? b=O o):b∉X.fs:=λhb=>by have:=(ok.mR.mem hb).1;rw[e]at this;cases this
def Inv.bs(I:Inv X b4 σ H s):∀b o,X.base.get? b=O o->s.heap.get? b=O o/\H b=Yj:=λb o e=>⟨I.base.keep b o (I.ok.bs b o e).1 (I.ok.bs b o e).2 (I.ok.Aeb e)<|I.ok.Aj b o e,I.base.free b o (I.ok.bs b o e).1 (I.ok.bs b o e).2<|I.ok.Aj b o e⟩
def Inv.bk(I:Inv X b4 σ H s):∀b o,X.base.get? b=O o->s.heap.get? b=O o:=λb o e=>(I.bs b o e).1
def Inv.mod(I:Inv X b4 σ H s):Mod X.K X.mg X.base:=I.ok.mod
def Inv.cJ(I:Inv X b4 σ H s):X.K.In s.heap:=I.ok.mod.Bj.keeps I.bk
def Inv.nolimit(I:Inv X b4 σ H s):s.heap.NoLimit:=I.ok.mod.nolimit.keeps I.bk
def Inv.fr(I:Inv X b4 σ H s):∃m,Fr X.base X.env.locals s.heap m:=
 let⟨m,hn,_⟩:=I.loc
 ⟨m,hn,I.bk,Yi I.ok.qF I.ok.above⟩
def Inv.lt(I:Inv X b4 σ H s):X.env.locals<c6 s:=let⟨_,hn,_⟩:=I.loc;hn.lt
def Inv.sz(I:Inv X b4 σ H s):c6 X.s₀<=c6 s:=Yi I.ok.above<|Ih I.lt
def Inv.Aec(I:Inv X b4 σ H s){a:Yy}(h:c6 s<=a):a∉X.fs:=λhb=>by let⟨_,o,ho,_⟩:=I.ok.mR.mem hb;exact k9 (Y5 (Y3 ho)<|Yi I.sz h)<|wM _
def Inv.y_(I:Inv X b4 σ H s):∀x c,X.env.cells.lookup x=O c->c≠X.env.locals:=λx c e z=>by let⟨v,o,ho,hd⟩:=I.cell x c e;let⟨m,⟨o',es,ep,sx,vj,_⟩,_⟩:=I.loc;rw[z,sx]at ho;cases ho;rw[vj]at hd;cases hd
def Inv.mR(I:Inv X b4 σ H s):s.heap.FunFrames X.base X.outer:=by
 have all:∀(l:List dz),(∀b∈sR l,b∈X.fs)->X.s₀.heap.FunFrames X.base l->s.heap.FunFrames X.base l:=by
  intro l
  induction l with
  |nil=>intro _ _;trivial|cons env r ih=>intro hs hl;let⟨hk,⟨L,o,hf,hn,ho,hd⟩,hr⟩:=hl;have hL:L∈X.fs:=hs L (by unfold sR;rw[Ux,hf];exact Ye);let⟨sl,e⟩:=I.base.slot L o ho (I.ok.tZ L hL) hL λz=>I.ok.yh L z hL;exact⟨hk,⟨L,_,hf,hn,e,hd⟩,ih (λb hb=>hs b (by unfold sR;rw[Ux,hf];exact Yf _ hb)) hr⟩
 exact all X.outer (λ_ hb=>hb) I.ok.mR
def Inv.stack(I:Inv X b4 σ H s):s.heap.FunFrames X.base X.stack:=by
 rcases I.ok.iI with e|⟨e,hf⟩
 .rw[e];exact I.mR
 .rw[e];let⟨m,hn,_⟩:=I.loc;refine .cons (by rw[I.ok.kind];decide) hf hn ?_ I.mR;exact Oe<|Yi I.ok.qF I.ok.above
def Inv.DW(I:Inv X b4 σ H s):∀b∈sR X.stack,b∈X.env.locals::X.fs:=λb hb=>by
 rcases I.ok.iI with e|⟨e,hf⟩
 .rw[e]at hb;exact Yf _ hb
 .rw[e]at hb;unfold sR at hb;rwa[Ux,hf]at hb
def Inv.Sw(I:Inv X b4 σ H s):∀b∈sR X.stack,H b=Yj:=λb hb=>by
 rcases Yo.mp (I.DW b hb)with e|hb
 .rw[e];exact I.free
 .let⟨_,o,ho,_⟩:=I.ok.mR.mem hb;exact I.base.free b o ho (I.ok.tZ b hb) λz=>I.ok.yh b z hb
def Inv.step{g':Array GenState}{d':Drawn}(I:Inv X b4 σ H s)(w9:∀b∈ch,(b∈X.ex\/X.s₀.heap.objs.size<=b)/\b≠X.env.locals/\(∀x c,X.env.cells.lookup x=O c->c≠b)/\∀p∈X.pn++b4,p.1≠b)(keep:∀b o,b≠X.env.locals->b∉X.fs->b∉ch->s.heap.get? b=O o->H b=Yj->h'.get? b=O o)(slot:∀b o,b≠X.env.locals->b∈X.fs->b∉ch->s.heap.get? b=O o->H b=Yj->∃sl,h'.get? b=O {o with slots:=sl})(free:∀b o,b∉ch->s.heap.get? b=O o->H b=Yj->H' b=Yj)(there:∀b o,b∉ch->s.heap.get? b=O o->∃o',h'.get? b=O o')(rg:∀b xs,H b=O (.U xs)->H' b=O (.U xs))(mQ:∀b o u,H b=O (.cY o u)->H' b=O (.cY o u))(nR:∀b ps,H b=O (.yZ ps)->∃more,H' b=O (.yZ<|ps++more))(ns:∀m,s.heap.Ns X.env.locals m->h'.Ns X.env.locals m)(i6:gP X.prog X.w H' h')(hg:u9 g'):
  Inv X b4 σ H' {s with heap:=h',gens:=g',drawn:=d',toks:=t'}:=by
 have OZ:∀b o,X.s₀.heap.get? b=O o->b≠X.env.locals:=λb o e=>d8<|Y5 (Y3 e) I.ok.above;have Pj:∀b o,X.s₀.heap.get? b=O o->b∉X.ex->b∉ch:=λb o e hx hb=>by
  rcases(w9 b hb).1 with z|z
  .exact hx z
  .exact k9 (Y5 (Y3 e) z)<|wM _
 have cellK:∀x c,X.env.cells.lookup x=O c->∀v,s.heap.IsCell c v->h'.IsCell c v:=λx c e v ak=>by
  let⟨o,ho,hd⟩:=ak;have IV:c∉ch:=λz=>(w9 c z).2.2.1 x c e J;by_cases hc:c∈X.fs
  .let⟨sl,q⟩:=slot c o (I.y_ x c e) hc IV ho<|I.mO x c e;exact⟨_,q,hd⟩
  .exact⟨o,keep c o (I.y_ x c e) hc IV ho<|I.mO x c e,hd⟩
 refine⟨I.ok,I.os,hg,⟨λb o e n hb hx=>?_,λb o e n hb hx=>?_,λb o e n hx=>?_,λb o e hx=>?_,λb xs e=>rg b xs<|I.base.rg b xs e,λb o xs e=>mQ b o xs<|I.base.mQ b o xs e,λb ps e=>?_⟩,?_,λx c e=>?_,?_,λx c e=>?_,λp hp=>?_,i6,I.len⟩
 .exact keep b o (OZ b o e) hb (Pj b o e hx) (I.base.keep b o e n hb hx)<|I.base.free b o e n hx
 .let⟨sl,e1⟩:=I.base.slot b o e n hb hx;let⟨BY,e2⟩:=slot b _ (OZ b o e) hb (Pj b o e hx) e1<|I.base.free b o e n hx;exact⟨BY,e2⟩
 .let⟨o',e1⟩:=I.base.there b o e hx;exact free b o' (Pj b o e hx) e1<|I.base.free b o e n hx
 .let⟨o',e1⟩:=I.base.there b o e hx;exact there b o' (Pj b o e hx) e1
 .let⟨m1,e1⟩:=I.base.nR b ps e;let⟨m2,e2⟩:=nR b _ e1;exact⟨m1++m2,by rw[e2,MV]⟩
 .let⟨m,hn,hl⟩:=I.loc;refine⟨m,ns m hn,λi x v e1 e2 e3=>?_⟩;let⟨u,r,l⟩:=hl i x v e1 e2 e3;refine⟨u,r,?_⟩;rcases l with l|⟨k,c,e,z⟩
  .exact .inl l
  .exact .inr ⟨k,c,e,cellK x c e _ z⟩
 .let⟨v,z⟩:=I.cell x c e;exact⟨v,cellK x c e v z⟩
 .let⟨m,⟨o,_,_,ho,_⟩,_⟩:=I.loc;exact free _ o (λz=>(w9 _ z).2.1 J) ho I.free
 .let⟨v,o,ho,hd⟩:=I.cell x c e;exact free c o (λz=>(w9 c z).2.2.1 x c e J) ho<|I.mO x c e
 .let⟨e,n,ne,nf,d⟩:=I.pin p hp;have IV:p.1∉ch:=λz=>(w9 p.1 z).2.2.2 p hp J;exact⟨keep p.1 p.2 ne nf IV e n,free p.1 p.2 IV e n,ne,nf,d⟩
def Inv.un(I:Inv X b4 σ H s)(u:Un X.fs [] H H' s.heap h')(i6:gP X.prog X.w H' h'):Inv X b4 σ H' {s with heap:=h',toks:=t'}:=by let⟨m,⟨o,es,ep,ho,r⟩,_⟩:=id I.loc;let⟨sl,hL⟩:=u.any ho I.free i9;exact I.step (g':=s.gens) (d':=s.drawn) (ch:=[]) nofun (λb o _ hb _ e n=>u.keep b o e n hb i9) (λb o _ hb _ e n=>u.slot b o e n hb i9) (λb o _ e n=>u.free b o e n i9) (λb o _ e=>u.there b o e i9) u.rg u.mQ u.nR (λm' hm=>by let⟨o',sN,C9,sx,r'⟩:=hm;rw[ho]at sx;cases sx;exact⟨_,sN,C9,hL,r'⟩) i6 I.bare
def Inv.call{g':Array GenState}{d':Drawn}(I:Inv X b4 σ H s)(u:Un (sR X.stack) ch H H' s.heap h')(i6:gP X.prog X.w H' h')(hg:u9 g')(w9:∀b∈ch,(b∈X.ex\/X.s₀.heap.objs.size<=b)/\b≠X.env.locals/\(∀x c,X.env.cells.lookup x=O c->c≠b)/\∀p∈X.pn++b4,p.1≠b):
  Inv X b4 σ H' {s with heap:=h',gens:=g',drawn:=d',toks:=t'}:=by
 let⟨m,⟨o,es,ep,ho,r⟩,_⟩:=id I.loc;let⟨sl,hL⟩:=u.any ho I.free λz=>(w9 _ z).2.1 J;exact I.step (ch:=ch) w9 (λb o hL hb hc e n=>u.keep b o e n (λz=>(Yo.mp<|I.DW b z).elim hL hb) hc) (λb o _ _ hc e n=>u.any e n hc) (λb o hc e n=>u.free b o e n hc) (λb o hc e=>u.there b o e hc) u.rg u.mQ u.nR (λm' hm=>by let⟨o',sN,C9,sx,r'⟩:=hm;rw[ho]at sx;cases sx;exact⟨_,sN,C9,hL,r'⟩) i6 hg
def Inv.turned{it:Yy}(I:Inv X b4 σ H s)(k:∀b o,b≠it->s.heap.get? b=O o->h'.get? b=O o)(hn:H it=Yj)(hL:it≠X.env.locals)(h1:it∈X.ex\/X.s₀.heap.objs.size<=it)(h2:∀x c,X.env.cells.lookup x=O c->c≠it)(h3:∀p∈X.pn++b4,p.1≠it):Inv X b4 σ H {s with heap:=h',toks:=t'}:=by
 have IW:∀b u,H b=O u->b≠it:=λb u e z=>by rw[z,hn]at e;cases e
 refine I.step (g':=s.gens) (d':=s.drawn) (ch:=[it]) (λb hb=>?_) (λb o _ _ hc e _=>k b o (λz=>hc<|by simp[z]) e) (λb o _ _ hc e _=>⟨o.slots,k b o (λz=>hc<|by simp[z]) e⟩) (λ_ _ _ _ n=>n)
  (λb o hc e=>⟨o,k b o (λz=>hc<|by simp[z]) e⟩) (λ_ _ e=>e) (λ_ _ _ e=>e) (λb ps e=>⟨#[],by rw[e];simp⟩) (λm hm=>?_) (λb u e=>?_) I.bare
 .have e:b=it:=by simpa using hb
  subst e;exact⟨h1,hL,h2,h3⟩
 .let⟨o,es,ep,ho,r⟩:=hm;exact⟨o,es,ep,k _ o (cu hL) ho,r⟩
 .refine(I.i6 b u e).rf (λc v hc q=>k c v ?_ q) (λ_ q=>q) λ_ _ q=>q;rcases hc with z|z
  .rw[z];exact IW b u e
  .exact IW c _ z
def Inv.tok(I:Inv X b4 σ H s)(t:Nat):Inv X b4 σ H {s with toks:=t}:=I.un (h':=s.heap) (t':=t) Un.refl I.i6
def Inv.kept(I:Inv X b4 σ H s)(k:∀b u,s.heap.get? b=O u->h'.get? b=O u):Inv X b4 σ H {s with heap:=h',toks:=t'}:=I.un (Un.kept k)<|I.i6.kept k
def Inv.laid{a:Yy}{o:HO}(I:Inv X b4 σ H s)(k:∀b u,s.heap.get? b=O u->h'.get? b=O u)(hp:c6 s<=a)(new:d9 X.prog X.w (upd H a o) h' a o):
  Inv X b4 σ (upd H a o) {s with heap:=h',toks:=t'}:=I.un (Un.laid k hp<|I.i6.fresh hp)<|I.i6.laid k hp new
def Inv.write{x e:Yy}{o:HO}(I:Inv X b4 σ H s)(mu:Pg (H x))(he:e=x\/H e=O (.own x))(k:∀b u,b≠e->s.heap.get? b=O u->h'.get? b=O u)(AL:∃u,h'.get? e=O u)(new:d9 X.prog X.w (upd H x o) h' x o):Inv X b4 σ (upd H x o) {s with heap:=h',toks:=t'}:=I.un (Un.write mu he k AL)<|I.i6.write mu he k AL new
def Inv.O0{yg:List (Yy×aK)}(I:Inv X b4 σ H s)(h:∀p∈yg,s.heap.get? p.1=O p.2/\H p.1=Yj/\p.1≠X.env.locals/\p.1∉X.fs/\∀v,p.2.data≠ .cell v):Inv X yg σ H s:=⟨I.ok,I.os,I.bare,I.base,I.loc,I.cell,I.free,I.mO,λp hp=>(gF.mp hp).elim (λz=>I.pin p<|pB _ z)<|h p,I.i6,I.len⟩
def V5{N:List aj}(hN:N.Nodup){i j:Nat}{x:aj}(a:N[i]?=O x)(b:N[j]?=O x):i=j:=by let⟨h1,e1⟩:=Yg.mp a;let⟨h2,e2⟩:=Yg.mp b;exact(Lc hN).mp (e1.trans e2.symm)
def V6{M:Model}{A:bG}{i:Nat}{x:aj}{v:V}{u:Yh}{Q:Unit->Yl->Prop}(I:Inv X b4 σ H s)(hN:X.N.Nodup)(hi:X.N[i]?=O x)(hx:Loc X.env.scope x)(r:RelV v u)(h:∀s',Inv X b4 (σ.set i<|O v) H s'->(∃a,Eu a s.heap s'.heap/\(a=X.env.locals\/X.env.cells.lookup x=O a))->Q () s')(hf:X.fn x=true\/X.env.scope.names.lookup x=O .local:=by first|exact .inl rfl|exact .inr rfl|assumption):aq M A (storeName X.env x u) Q E s:=by
 let⟨m,hn,hl⟩:=id I.loc;have vF:(X.env.scope.kind== .class|| (X.env.scope.kind== .module&&X.env.locals !=X.env.globals))=false:=by rw[I.ok.kind];rfl
 have Pc:i<B σ:=by rw[I.len];exact(Yg.mp hi).1
 have y_:=I.y_;have tracked:∀{a:Yy} {h':aH},(∃o,s.heap.get? a=O o/\H a=Yj)->Eu a s.heap h'->gP X.prog X.w H h':=λ{a h'} ha hs b ob e=>by
  let⟨_,_,si⟩:=ha;refine(I.i6 b ob e).rf (λc w' hc q=>(hs.2 c ?_).trans q) (λ_ q=>q) λ_ _ q=>q;rintro rfl;rcases hc with rfl|hc
  .rw[si]at e;cases e
  .rw[si]at hc;cases hc
 rcases hx with hk|hk
 .refine IQ hk hn (λh' AM hs=>?_) vF;let⟨Zh4,_,_,hoL,_⟩:=id hn;refine h _ ⟨I.ok,I.os,I.bare,⟨λb o e n hb hx=>?_,λb o e n hb hx=>?_,I.base.free,λb o e hx=>?_,I.base.rg,I.base.mQ,I.base.nR⟩,⟨_,AM,λj y v' e1 e2 e3=>?_⟩,λy c e=>?_,I.free,I.mO,λp hp=>?_,tracked ⟨Zh4,hoL,I.free⟩ hs,by simpa using I.len⟩ ⟨_,hs,.inl J⟩
  .exact(hs.2 b<|d8<|Y5 (Y3 e) I.ok.above).trans (I.base.keep b o e n hb hx)
  .let⟨sl,e1⟩:=I.base.slot b o e n hb hx;exact⟨sl,(hs.2 b<|d8<|Y5 (Y3 e) I.ok.above).trans e1⟩
  .let⟨o',e1⟩:=I.base.there b o e hx;exact⟨o',(hs.2 b<|d8<|Y5 (Y3 e) I.ok.above).trans e1⟩
  .by_cases hj:j=i
   .subst hj;rw[hi]at e1;cases e1;rw[Y4 Pc]at e2;cases e2;exact⟨u,r,.inl ⟨hk,i9⟩⟩
   .rw[Ys<|cu hj]at e2;let⟨u',r',q⟩:=hl j y v' e1 e2 e3;refine⟨u',r',?_⟩;rcases q with⟨k,e⟩|⟨k,c,e,z⟩
    .refine .inl ⟨k,?_⟩;have:y≠x:=λe=>hj<|V5 hN e1<|e▸hi;simp[this,e]
    .exact .inr ⟨k,c,e,z.sameBut hs<|y_ y c e⟩
  .let⟨w',z⟩:=I.cell y c e;exact⟨w',z.sameBut hs<|y_ y c e⟩
  .let⟨e,n,ne,nf,d⟩:=I.pin p hp;exact⟨(hs.2 p.1 ne).trans e,n,ne,nf,d⟩
 .have yv:X.fn x=true:=by
   rcases hf with z|z
   .exact z
   .rw[z]at hk;cases hk
  let⟨c,hc⟩:=I.ok.has x<|.inl hk;let⟨w',z⟩:=I.cell x c hc;refine wpAny_storeName_cell I.ok.kind hk hc z λh' tF hs=>?_;let⟨oc,Pd,Aed⟩:=id z;refine h {s with heap:=h'} ⟨I.ok,I.os,I.bare,⟨λb o e n hb hx=>?_,λb o e n hb hx=>?_,I.base.free,λb o e hx=>?_,I.base.rg,I.base.mQ,I.base.nR⟩,⟨m,hn.sameBut hs<|cu<|y_ x c hc,λj y v' e1 e2 e3=>?_⟩,λy c' e=>?_,I.free,I.mO,λp hp=>?_,tracked ⟨oc,Pd,I.mO x c hc⟩ hs,by simpa using I.len⟩ ⟨c,hs,.inr hc⟩
  .exact(hs.2 b<|d8<|Y5 (Y3 e)<|I.ok.zk x c yv hc).trans (I.base.keep b o e n hb hx)
  .let⟨sl,e1⟩:=I.base.slot b o e n hb hx;exact⟨sl,(hs.2 b<|d8<|Y5 (Y3 e)<|I.ok.zk x c yv hc).trans e1⟩
  .let⟨o',e1⟩:=I.base.there b o e hx;exact⟨o',(hs.2 b<|d8<|Y5 (Y3 e)<|I.ok.zk x c yv hc).trans e1⟩
  .by_cases hj:j=i
   .subst hj;rw[hi]at e1;cases e1;rw[Y4 Pc]at e2;cases e2;exact⟨u,r,.inr ⟨.inl hk,c,hc,tF⟩⟩
   .rw[Ys<|cu hj]at e2;let⟨u',r',q⟩:=hl j y v' e1 e2 e3;refine⟨u',r',?_⟩;rcases q with q|⟨k,c',e,z'⟩
    .exact .inl q
    .refine .inr ⟨k,c',e,z'.sameBut hs ?_⟩;rintro rfl;exact hj<|V5 hN e1<|I.ok.inj _ _ _ e hc▸hi
  .by_cases Pe:c'=c
   .subst Pe;exact⟨_,tF⟩
   .let⟨w2,z2⟩:=I.cell y c' e;exact⟨w2,z2.sameBut hs Pe⟩
  .let⟨e,n,ne,nf,d⟩:=I.pin p hp;refine⟨(hs.2 p.1 ?_).trans e,n,ne,nf,d⟩;intro q;rw[q,Pd]at e;have q':oc=p.2:=fM e;exact d w' (by rwa[<-q'])
def V7{M:Model}{A:bG}{i:Nat}{x:aj}{v:V}{u:Yh}{Q:Unit->Yl->Prop}(I:Inv X b4 σ H s)(hN:X.N.Nodup)(hi:X.N[i]?=O x)(hx:Loc X.env.scope x)(r:RelV v u)(h:∀s',Inv X b4 (σ.set i<|O v) H s'->Q () s')(hf:X.fn x=true\/X.env.scope.names.lookup x=O .local:=by first|exact .inl rfl|exact .inr rfl|assumption):aq M A (storeName X.env x u) Q E s:=V6 I hN hi hx r (λs' I' _=>h s' I') hf
def Inv.vS{s':Yl}(I:Inv X b4 σ H s)(ho:s'.os=s.os)(u:Un (sR X.stack) ch H H' s.heap s'.heap)(i6:gP X.prog X.w H' s'.heap)(hg:u9 s'.gens)(w9:∀b∈ch,(b∈X.ex\/X.s₀.heap.objs.size<=b)/\b≠X.env.locals/\(∀x c,X.env.cells.lookup x=O c->c≠b)/\∀p∈X.pn++b4,p.1≠b):Inv X b4 σ H' s':=by let⟨h',g',d',t',o'⟩:=s';have e:o'=s.os:=ho;subst e;exact I.call (g':=g') (t':=t') (d':=d') u i6 hg w9
end
abbrev XK:=Yh->Option Yy->Hp->Prop
abbrev St:=List<|Option V
abbrev VK:=V->Hp->Prop
abbrev TE:=St->Hp->VK->Prop
abbrev TT:=St->Hp->(Bool->Hp->Prop)->Prop
abbrev TA:=St->Hp->(List V->Hp->Prop)->Prop
structure Ends where
 nx:St->Hp->Prop
 rt:VK
 bk:St->Hp->Prop:=λ_ _=>False
 ct:St->Hp->Prop:=λ_ _=>False
abbrev TS:=Ends->St->Hp->Prop
inductive EP(X:Cx)(b4:List (Yy×aK))(σ:St)(Q:VK)(u:Yh)(s':Yl):Prop where
 |mk (v:V) (H':Hp) (I:Inv X b4 σ H' s') (r:RelV v u) (q:Q v H'):EP X b4 σ Q u s'
inductive TP(X:Cx)(b4:List (Yy×aK))(σ:St)(Q:Bool->Hp->Prop)(b:Bool)(s':Yl):Prop where
 |mk (H':Hp) (I:Inv X b4 σ H' s') (q:Q b H'):TP X b4 σ Q b s'
inductive AP(X:Cx)(b4:List (Yy×aK))(σ:St)(Q:List V->Hp->Prop)(us:List Yh)(s':Yl):Prop where
 |mk (vs:List V) (H':Hp) (I:Inv X b4 σ H' s') (r:Vals vs us) (q:Q vs H'):AP X b4 σ Q us s'
def SP(X:Cx)(b4:List (Yy×aK))(D:Ends)(f:Flow)(s':Yl):Prop:=
 match f with
 | .next=>∃σ' H',Inv X b4 σ' H' s'/\D.nx σ' H'|.brk=>∃σ' H',Inv X b4 σ' H' s'/\D.bk σ' H'|.cont=>∃σ' H',Inv X b4 σ' H' s'/\D.ct σ' H'|.ret u=>∃v σ' H',Inv X b4 σ' H' s'/\RelV v u/\D.rt v H'
def PE(X:Cx)(e:Expr)(t:TE):Prop:=∀(b4:List (Yy×aK)) (s:Yl) (σ:St) (H:Hp) (Q:VK),Inv X b4 σ H s->t σ H Q->aq (aA X.prog X.w) X.A (aO e X.env) (EP X b4 σ Q) X.xe s
def PT(X:Cx)(e:Expr)(t:TT):Prop:=∀(b4:List (Yy×aK)) (s:Yl) (σ:St) (H:Hp) (Q:Bool->Hp->Prop),Inv X b4 σ H s->t σ H Q->aq (aA X.prog X.w) X.A (isTrue e X.env<|aO e X.env) (TP X b4 σ Q) X.xe s
def PW(X:Cx)(e:Expr)(t:TT):Prop:=∀(whole:nW Yh) (b4:List (Yy×aK)) (s:Yl) (σ:St) (H:Hp) (Q:Bool->Hp->Prop),Inv X b4 σ H s->t σ H Q->aq (aA X.prog X.w) X.A (isTrue e X.env whole) (TP X b4 σ Q) X.xe s
def PW.pt{X:Cx}{e:Expr}{t:TT}(h:PW X e t):PT X e t:=h _
def PA(X:Cx)(es:List Expr)(t:TA):Prop:=∀(pos:a_) (b4:List (Yy×aK)) (s:Yl) (σ:St) (H:Hp) (Q:List V->Hp->Prop),Inv X b4 σ H s->t σ H Q->aq (aA X.prog X.w) X.A (HJ<|b8 pos<|Yv es X.env) (AP X b4 σ Q) X.xe s
def PS(X:Cx)(st:Ydv)(t:TS):Prop:=∀(b4:List (Yy×aK)) (s:Yl) (σ:St) (H:Hp) (D:Ends),Inv X b4 σ H s->t D σ H->aq (aA X.prog X.w) X.A (exec st X.env) (SP X b4 D) X.xe s
def lz(X:Cx)(st:List Ydv)(t:TS):Prop:=∀(b4:List (Yy×aK)) (s:Yl) (σ:St) (H:Hp) (D:Ends),Inv X b4 σ H s->t D σ H->aq (aA X.prog X.w) X.A (execs st X.env) (SP X b4 D) X.xe s
def aP{α:Type}{t:nW α}{Q Q':α->Yl->Prop}{M:Model}{A:bG}{s:Yl}(h:aq M A t Q E s)(hQ:∀a s,Q a s->Q' a s):aq M A t Q' E s:=gD h hQ λ_ _ x=>x
end L2
namespace L2
open PySem PySem.Spec PyProof.Rows
section
variable {X:Cx}
def I_(i:Nat):TE:=λσ H Q=>∃v,σ[i]?=O (O v)/\Q v H
def tC(v:V):TE:=λ_ H Q=>Q v H
def Ja{i:Nat}{x:aj}{pos:a_}(hN:X.N[i]?=O x)(hv:Ph X.env.scope x)(hd:(x==("__debug__":aj))=false:=by decide)(tI:(x==("__classdict__":aj))=false:=by decide):PE X (.Name x pos) (I_ i):=by
 intro b4 s σ H Q I h;let⟨v,e,h⟩:=h;let⟨m,hn,hl⟩:=I.loc;let⟨u,r,l⟩:=hl i x v hN e hv;have fin:EP X b4 σ Q u s:=⟨v,H,I,r,h⟩;rcases l with⟨hk,hm⟩|⟨hk,c,hc,t9⟩
 .exact Ug (wpAny_loadName_local I.ok.kind hk hn hm fin) hd
 .rcases hk with hk|hk
  .exact Ug (wpAny_loadName_cell I.ok.kind hk hc t9 fin) hd
  .exact Ug (wpAny_loadName_free I.ok.kind hk hc t9 fin tI) hd
def V8{i j pos}:PE X (.Constant (.int i) j pos) (tC<|.int i):=λ_ _ _ H _ I h=>wpAny_Constant_int ⟨.int i,H,I.tok _,⟨_,rfl⟩,h⟩
def ZzD{b j pos}:PE X (.Constant (.bool b) j pos) (tC<|.bl b):=λ_ _ _ H _ I h=>Constant_bool ⟨.bl b,H,I,rfl,h⟩
def ZxB{j pos}:PE X (.Constant .none j pos) (tC .Z):=λ_ _ _ H _ I h=>Constant_none ⟨.Z,H,I,rfl,h⟩
def V9{x j pos}:PE X (.Constant (.str x) j pos) (tC<|.str x):=λ_ _ _ H _ I h=>Calls.Constant_str ⟨.str x,H,I.tok _,⟨_,rfl⟩,h⟩
def Gl(X:Cx)(x:aj):Prop:=X.env.kindOf x=O .globalImplicit
def Bl{E:Yh->Yl->Prop}{b4:List (Yy×aK)}{s:Yl}{σ:St}{H:Hp}{x:aj}{u:Yh}{pos:a_}{Q:Yh->Yl->Prop}(I:Inv X b4 σ H s)(hg:Gl X x)(hm:X.mg x=O u)(h:Q u s)(hd:(x==("__debug__":aj))=false:=by decide):aq (aA X.prog X.w) X.A (aO (.Name x pos) X.env) Q E s:=N9 I.ok.kind hg (Calls.loadGlobal_global (by rw[I.ok.glob];exact I.mod.glob.keeps I.bk) hm h) hd
def Bm{E:Yh->Yl->Prop}{b4:List (Yy×aK)}{s:Yl}{σ:St}{H:Hp}{x:aj}{u:Yh}{pos:a_}{Q:Yh->Yl->Prop}(I:Inv X b4 σ H s)(hg:Gl X x)(hm:X.mg x=Yj)(hv:jY x=O u)(h:Q u s)(hn:x≠ "__name__":=by decide)(hd:(x==("__debug__":aj))=false:=by decide):aq (aA X.prog X.w) X.A (aO (.Name x pos) X.env) Q E s:=by let⟨mb,h1,h2⟩:=I.mod.blt;exact N9 I.ok.kind hg (Calls.loadGlobal_builtin (by rw[I.ok.glob];exact I.mod.glob.keeps I.bk) hm (by rw[I.ok.blt];exact h1.keeps I.bk) ((h2 x hn).trans hv) h) hd
def za{x:aj}{v:V}{u:Yh}{pos:a_}(hg:Gl X x)(hm:X.mg x=O u)(r:RelV v u)(hd:(x==("__debug__":aj))=false:=by decide):PE X (.Name x pos) (tC v):=λ_ _ _ H _ I h=>Bl I hg hm ⟨v,H,I,r,h⟩ hd
def Pl{x:aj}{v:V}{u:Yh}{pos:a_}(hg:Gl X x)(hm:X.mg x=Yj)(hv:jY x=O u)(r:RelV v u)(hn:x≠ "__name__":=by decide)(hd:(x==("__debug__":aj))=false:=by decide):PE X (.Name x pos) (tC v):=λ_ _ _ H _ I h=>Bm I hg hm hv ⟨v,H,I,r,h⟩ hn hd
variable {a b:Expr} {ta tb:TE} {pos:a_}
def hh1(t:TE):TT:=λσ H Q=>t σ H λx H1=>∃c,x= .bl c/\Q c H1
def ZxV{e:Expr}{t:TE}(h:PE X e t)(he:∀whole,isTrue e X.env whole=(do let v ←whole;Ej e.pos;wI [v] (truthy v)):=by intro _;rfl):PT X e (hh1 t):=by intro b4 s σ H Q I hw;refine isTrue_plain (aP (h b4 s σ H _ I hw) λv s1 ak=>?_)<|he _;let⟨x,H1,I1,r1,q1⟩:=ak;let⟨d,rfl,q⟩:=q1;cases r1;exact tu ⟨H1,I1,q⟩
variable {tA Pk:TT} {rest:List Expr}
def Aee(t u:TT):TT:=λσ H Q=>t σ H λc H1=>if c=true then u σ H1 Q else Q false H1
def tOr(t u:TT):TT:=λσ H Q=>t σ H λc H1=>if c=true then Q true H1 else u σ H1 Q
def Aef(t:TT):TT:=λσ H Q=>t σ H λc H1=>Q (!c) H1
def Zu9(ha:PT X a tA):PW X (.BoolOp .And [a] pos) tA:=by
 intro wh b4 s σ H Q I h;refine isTrue_and<|aP (ha b4 s σ H Q I h) λc s1 e=>?_;cases c with
 |true=>exact isTrue_and_nil e|false=>exact e
def Zxd(ha:PT X a tA):PW X (.BoolOp .Or [a] pos) tA:=by
 intro wh b4 s σ H Q I h;refine isTrue_or<|aP (ha b4 s σ H Q I h) λc s1 e=>?_;cases c with
 |false=>exact isTrue_or_nil e|true=>exact e
def Zxc(ha:PT X a tA)(hb:PW X (.BoolOp .And (b::rest) pos) Pk):PW X (.BoolOp .And (a::b::rest) pos) (Aee tA Pk):=by
 intro wh b4 s σ H Q I h;refine isTrue_and<|aP (ha b4 s σ H _ I h) λc s1 ak=>?_;let⟨H1,I1,q1⟩:=ak;cases c with
 |true=>exact hb wh b4 s1 σ H1 Q I1 q1|false=>exact⟨H1,I1,q1⟩
def ZzF(ha:PT X a tA)(hb:PW X (.BoolOp .Or (b::rest) pos) Pk):PW X (.BoolOp .Or (a::b::rest) pos) (tOr tA Pk):=by
 intro wh b4 s σ H Q I h;refine isTrue_or<|aP (ha b4 s σ H _ I h) λc s1 ak=>?_;let⟨H1,I1,q1⟩:=ak;cases c with
 |true=>exact⟨H1,I1,q1⟩|false=>exact hb wh b4 s1 σ H1 Q I1 q1
def ZwI(ha:PT X a tA):PT X (.UnaryOp .Not a pos) (Aef tA):=by intro b4 s σ H Q I h;exact isTrue_not<|aP (ha b4 s σ H (λc H1=>Q (!c) H1) I h) λc s' ⟨H',I',q⟩=>⟨H',I',q⟩
def ZyZ(ta tb:TE):TE:=λσ H Q=>ta σ H λx H1=>∃c,x= .bl c/\if c=true then tb σ H1 Q else Q (.bl false) H1
def Aeg(ta tb:TE):TE:=λσ H Q=>ta σ H λx H1=>∃c,x= .bl c/\if c=true then Q (.bl true) H1 else tb σ H1 Q
def Zzw(ta:TE):TE:=λσ H Q=>ta σ H λx H1=>∃c,x= .bl c/\Q (.bl<|!c) H1
def ZwX{op}{t:TE}(h:PE X a t):PE X (.BoolOp op [a] pos) t:=λb4 s σ H Q I hw=>BoolOp_one<|h b4 s σ H Q I hw
def Zwj(ha:PE X a ta)(hb:PE X (.BoolOp .And (b::rest) pos) tb):PE X (.BoolOp .And (a::b::rest) pos) (ZyZ ta tb):=by
 intro b4 s σ H Q I h;refine BoolOp_and<|aP (ha b4 s σ H _ I h) λv s1 ak=>?_;let⟨x,H1,I1,r1,q1⟩:=ak;let⟨c,rfl,q1⟩:=q1;cases r1;refine tu ?_;cases c with
 |true=>exact hb b4 s1 σ H1 Q I1 q1|false=>exact⟨.bl false,H1,I1,rfl,q1⟩
def ZzI(ha:PE X a ta)(hb:PE X (.BoolOp .Or (b::rest) pos) tb):PE X (.BoolOp .Or (a::b::rest) pos) (Aeg ta tb):=by
 intro b4 s σ H Q I h;refine BoolOp_or<|aP (ha b4 s σ H _ I h) λv s1 ak=>?_;let⟨x,H1,I1,r1,q1⟩:=ak;let⟨c,rfl,q1⟩:=q1;cases r1;refine tu ?_;cases c with
 |false=>exact hb b4 s1 σ H1 Q I1 q1|true=>exact⟨.bl true,H1,I1,rfl,q1⟩
def ZxY(ha:PE X a ta):PE X (.UnaryOp .Not a pos) (Zzw ta):=by intro b4 s σ H Q I h;refine UnaryOp_<|aP (ha b4 s σ H _ I h) λv s1 ak=>?_;let⟨x,H1,I1,r1,q1⟩:=ak;let⟨c,rfl,q1⟩:=q1;cases r1;exact not_of<|tu ⟨.bl<|!c,H1,I1,rfl,q1⟩
def V_(t:TT)(ta tb:TE):TE:=λσ H Q=>t σ H λc H1=>if c=true then ta σ H1 Q else tb σ H1 Q
def Zsh{c:Expr}(hc:PT X c tA)(ha:PE X a ta)(hb:PE X b tb):PE X (.IfExp c a b pos) (V_ tA ta tb):=by
 intro b4 s σ H Q I h;refine wpAny_IfExp<|aP (hc b4 s σ H _ I h) λd s1 ak=>?_;let⟨H1,I1,q1⟩:=ak;cases d with
 |true=>exact ha b4 s1 σ H1 Q I1 q1|false=>exact hb b4 s1 σ H1 Q I1 q1
end
end L2
namespace L2
open PySem PySem.Spec PyProof.Rows
def bV(K:Yb)(H:Hp)(a:Yy)(xs:List V):Prop:=
 Rd H a (.L xs)\/
  ∃(o:aK) (b6:Array Yh) (n:Nat),K.lookup a=O o/\o.cls= .type "list" /\o.dict=Yj/\o.data= .seq b6 n/\b6.size<=bI/\Vals xs b6.toList
def dJ(K:Yb)(H:Hp)(a:Yy)(xs:List V):Prop:=
 Rd H a (.U xs)\/
  ∃(o:aK) (b6:Array Yh) (n:Nat),K.lookup a=O o/\(o.cls= .type "tuple" /\o.dict=Yj)/\o.data= .seq b6 n/\b6.size<=bI/\Vals xs b6.toList
def Aeh:Yh->Option V
 | .none=>O .Z|.bool b=>O (.bl b)|.int i _=>O (.int i)|.str x _=>O<|.str x
 | .bytes b _=>O (.E_ b)|.float b _=>O (.zh b)|.ref a=>O (.ref a)|.type n=>O<|.ty n
 |_=>Yj
def RelV.abs{x:V}{u:Yh}(r:RelV x u):Aeh u=O x:=by
 cases x with
 |Z=>cases r;rfl|bl _=>cases r;rfl|int _=>let⟨t,rfl⟩:=r;rfl|str _=>let⟨t,rfl⟩:=r;rfl
 |E_ _=>let⟨t,rfl⟩:=r;rfl|zh _=>let⟨t,rfl⟩:=r;rfl|ref _=>cases r;rfl|ty _=>cases r;rfl
def RelV.inj{x y:V}{u:Yh}(r:RelV x u)(q:RelV y u):x=y:=fM<|r.abs.symm.trans q.abs
theorem Vals.inj:∀{xs ys:List V} {us:List Yh},Vals xs us->Vals ys us->xs=ys
 |_,_,_,.nil,.nil=>rfl|_,_,_,.cons r t,.cons r' t'=>by rw[r.inj r',Vals.inj t t']
variable{K:Yb}
section
variable {X:Cx} {b4:List (Yy×aK)} {σ:St} {H:Hp} {s:Yl} {a:Yy} {xs ys:List V}
def bV.of(h:H a=O (.L xs)):bV K H a xs:=.inl<|.inl h
def dJ.of(h:H a=O (.U xs)):dJ K H a xs:=.inl<|.inl h
def Inv.list(I:Inv X b4 σ H s)(h:bV X.K H a xs):∃b6:List Yh,Vals xs b6/\PlainL s.heap a b6.toArray/\xs.length<=bI:=by
 rcases h with h|⟨o,b6,n,hk,hc,hd,hs,hz,r⟩
 .let⟨z,b6,n,r,e⟩:=h.ok I.i6;exact⟨b6,r,⟨_,n,e,rfl,rfl,rfl⟩,z⟩
 .refine⟨b6.toList,r,⟨o,n,I.cJ a o hk,hc,hd,by simpa using hs⟩,?_⟩;have e:=r.length;simp only[Ow]at e;omega
def Inv.tuple(I:Inv X b4 σ H s)(h:dJ X.K H a xs):∃b6:List Yh,Vals xs b6/\IsTup s.heap a b6.toArray/\xs.length<=bI:=by
 rcases h with h|⟨o,b6,n,hk,hc,hs,hz,r⟩
 .let⟨z,b6,r,p⟩:=h.ok I.i6;exact⟨b6,r,p.U,z⟩
 .refine⟨b6.toList,r,⟨o,I.cJ a o hk,hc.1,n,by simpa using hs⟩,?_⟩;have e:=r.length;simp only[Ow]at e;omega
def Inv.Su(I:Inv X b4 σ H s)(h:bV X.K H a xs)(h':bV X.K H a ys):xs=ys:=by
 let⟨b6,r,⟨o,n,e,_,_,d⟩,_⟩:=I.list h;let⟨its',r',⟨o',n',e',_,_,d'⟩,_⟩:=I.list h';rw[e]at e';cases e';rw[d]at d';injection d' with d1 _;have:b6=its':=by simpa using congrArg Ez d1
 subst this;exact r.inj r'
def Inv.AdI(I:Inv X b4 σ H s)(h:dJ X.K H a xs):∃b6:List Yh,Vals xs b6/\vg s.heap a b6.toArray/\xs.length<=bI:=by
 rcases h with h|⟨o,b6,n,hk,hc,hs,hz,r⟩
 .let⟨z,b6,r,p⟩:=h.ok I.i6;exact⟨b6,r,p,z⟩
 .refine⟨b6.toList,r,⟨o,I.cJ a o hk,hc,n,by simpa using hs⟩,?_⟩;have e:=r.length;simp only[Ow]at e;omega
def Inv.Sg(I:Inv X b4 σ H s)(h:dJ X.K H a xs)(h':dJ X.K H a ys):xs=ys:=by
 let⟨b6,r,⟨o,e,_,n,d⟩,_⟩:=I.tuple h;let⟨its',r',⟨o',e',_,n',d'⟩,_⟩:=I.tuple h';rw[e]at e';cases e';rw[d]at d';injection d' with d1 _;have:b6=its':=by simpa using congrArg Ez d1
 subst this;exact r.inj r'
end
abbrev Cx.rh(X:Cx)(E:Yh->Yl->Prop):Cx:={X with xe:=E}
abbrev Cx.jP(X:Cx):Cx:=X.rh λ_ _=>False
def Cx.Ok.rh{X:Cx}(ok:X.Ok)(E:Yh->Yl->Prop):(X.rh E).Ok:=⟨ok.mod,ok.kind,ok.glob,ok.blt,ok.above,ok.inj,ok.has,ok.zk,ok.hd,ok.frames,ok.iI,ok.Fd,ok.bs,ok.qF,ok.Aj,ok.yh,ok.mR,ok.tZ⟩
def Cx.Ok.qp{X:Cx}{E:Yh->Yl->Prop}(ok:(X.rh E).Ok):X.Ok:=⟨ok.mod,ok.kind,ok.glob,ok.blt,ok.above,ok.inj,ok.has,ok.zk,ok.hd,ok.frames,ok.iI,ok.Fd,ok.bs,ok.qF,ok.Aj,ok.yh,ok.mR,ok.tZ⟩
variable{e:Expr}
section
variable {X:Cx} {b4:List (Yy×aK)} {σ:St} {H:Hp} {s:Yl} {E:Yh->Yl->Prop}
def Inv.rh(I:Inv X b4 σ H s)(E:Yh->Yl->Prop):Inv (X.rh E) b4 σ H s:=⟨I.ok.rh E,I.os,I.bare,I.base,I.loc,I.cell,I.free,I.mO,I.pin,I.i6,I.len⟩
def Inv.qp(I:Inv (X.rh E) b4 σ H s):Inv X b4 σ H s:=⟨I.ok.qp,I.os,I.bare,I.base,I.loc,I.cell,I.free,I.mO,I.pin,I.i6,I.len⟩
def SP.qp{D:Ends}{f:Flow}{s':Yl}(h:SP (X.rh E) b4 D f s'):SP X b4 D f s':=by
 cases f with
 |next=>let⟨σ',H',I,q⟩:=h;exact⟨σ',H',I.qp,q⟩|brk=>let⟨σ',H',I,q⟩:=h;exact⟨σ',H',I.qp,q⟩|cont=>let⟨σ',H',I,q⟩:=h;exact⟨σ',H',I.qp,q⟩|ret u=>let⟨v,σ',H',I,r,q⟩:=h;exact⟨v,σ',H',I.qp,r,q⟩
def PE.jP{t:TE}(h:PE X.jP e t):PE X e t:=λb4 s σ H Q I hw=>gD (h b4 s σ H Q (I.rh _) hw) (λ_ _ ⟨v,H',I',r,q⟩=>⟨v,H',I'.qp,r,q⟩) λ_ _ z=>fZ z
def PT.jP{t:TT}(h:PT X.jP e t):PT X e t:=λb4 s σ H Q I hw=>gD (h b4 s σ H Q (I.rh _) hw) (λ_ _ ⟨H',I',q⟩=>⟨H',I'.qp,q⟩) λ_ _ z=>fZ z
def lz.jP{st:List Ydv}{t:TS}(h:lz X.jP st t):lz X st t:=λb4 s σ H D I hw=>gD (h b4 s σ H D (I.rh _) hw) (λ_ _ q=>q.qp) λ_ _ z=>fZ z
end
section
variable {X:Cx} {st:Ydv} {rest:List Ydv} {t u:TS} {e:Expr} {te:TE} {pos:a_}
def Zzf:TS:=λD σ H=>D.nx σ H
def Pm(t u:TS):TS:=λD σ H=>t {D with nx:=u D} σ H
def Zui:lz X [] Zzf:=λ_ _ σ H _ I h=>Hs ⟨σ,H,I,h⟩
def Wa(h1:PS X st t)(h2:lz X rest u):lz X (st::rest) (Pm t u):=by
 intro b4 s σ H D I h;refine JI<|aP (h1 b4 s σ H {D with nx:=u D} I h) λf s1 q=>?_;cases f with
 |next=>let⟨σ',H',I',q⟩:=q;exact h2 b4 s1 σ' H' D I' q|ret v=>exact q|brk=>exact q
 |cont=>exact q
def Wb(h1:PS X st t):lz X [st] t:=by
 intro b4 s σ H D I h;refine JI<|aP (h1 b4 s σ H D I h) λf s1 q=>?_;cases f with
 |next=>exact Hs q|ret v=>exact q|brk=>exact q|cont=>exact q
def Zyo:TS:=λD σ H=>D.bk σ H
def Zr0:PS X (.Break pos) Zyo:=λ_ _ σ H _ I h=>wpAny_Break ⟨σ,H,I,h⟩
def Inv.quiet{b4:List (Yy×aK)}{σ:St}{H:Hp}{s:Yl}(I:Inv X b4 σ H s):interactive X.env=false:=by simp[interactive,I.ok.kind]
def Po(te:TE):TS:=λD σ H=>te σ H λ_ H1=>D.nx σ H1
def Wc(he:PE X e te)(hs:tG e Yj pos.line X.env=pure false:=by rfl):PS X (.Expr e pos) (Po te):=by intro b4 s σ H D I h;exact wpAny_Expr_any (aP (he b4 s σ H _ I h) λv s1 ⟨x,H1,I1,r1,q1⟩=>⟨σ,H1,I1,q1⟩) I.quiet hs
def Aei(te:TE):TS:=λD σ H=>te σ H D.rt
def Pp(he:PE X e te):PS X (.Return (O e) pos) (Aei te):=by intro b4 s σ H D I h;exact wpAny_Return_some<|aP (he b4 s σ H _ I h) λv s1 ⟨x,H1,I1,r1,q1⟩=>⟨x,σ,H1,I1,r1,q1⟩
def Aej(c:TT)(t u:TS):TS:=λD σ H=>c σ H λb H1=>if b=true then t D σ H1 else u D σ H1
def Pt{c:Expr}{a b:List Ydv}{tc:TT}(hc:PT X c tc)(ha:lz X a t)(hb:lz X b u):PS X (.If c a b pos) (Aej tc t u):=by
 intro b4 s σ H D I h;refine wpAny_If<|aP (hc b4 s σ H _ I h) λd s1 ak=>?_;let⟨H1,I1,q1⟩:=ak;cases d with
 |true=>exact ha b4 s1 σ H1 D I1 q1|false=>exact hb b4 s1 σ H1 D I1 q1
end
abbrev TG:=V->St->Hp->(St->Hp->Prop)->Prop
abbrev t6:=List V->St->Hp->(St->Hp->Prop)->Prop
def PG(X:Cx)(target:Expr)(t:TG):Prop:=
 ∀(b4:List (Yy×aK)) (s:Yl) (σ:St) (H:Hp) (v:V) (u:Yh) (Q:St->Hp->Prop),Inv X b4 σ H s->RelV v u->t v σ H Q ->
  aq (aA X.prog X.w) X.A (kW target X.env u) (λ_ s'=>∃σ' H',Inv X b4 σ' H' s'/\Q σ' H') X.xe s
def t7(X:Cx)(ts:List Expr)(t:t6):Prop:=
 ∀(b4:List (Yy×aK)) (s:Yl) (σ:St) (H:Hp) (vs:List V) (us:List Yh) (Q:St->Hp->Prop),Inv X b4 σ H s->Vals vs us->t vs σ H Q ->
  aq (aA X.prog X.w) X.A (assignInOrder ((kJ ts X.env).map (·.2)) us) (λ_ s'=>∃σ' H',Inv X b4 σ' H' s'/\Q σ' H') X.xe s
abbrev Wd:=V->V->V->Hp->(Hp->Prop)->Prop
def Pw(X:Cx)(t:Wd):Prop:=
 ∀(b4:List (Yy×aK)) (s:Yl) (σ:St) (H:Hp) (o i v:V) (ov iv u:Yh) (Q:Hp->Prop),Inv X b4 σ H s->RelV o ov->RelV i iv->RelV v u->t o i v H Q ->
  aq (aA X.prog X.w) X.A (setItem ov iv u) (λ_ s'=>∃H',Inv X b4 σ H' s'/\Q H') X.xe s
variable{tg:Expr}
section
variable {X:Cx} {pos:a_}
def PC(i:Nat):TG:=λv σ H Q=>Q (σ.set i<|O v) H
def PD{i:Nat}{x:aj}(hN:X.N.Nodup)(hi:X.N[i]?=O x)(hx:Loc X.env.scope x)(hf:X.fn x=true\/X.env.scope.names.lookup x=O .local:=by first|exact .inl rfl|exact .inr rfl|assumption):PG X (.Name x pos) (PC i):=by intro b4 s σ H v u Q I r h;exact TQ (V7 I hN hi hx r (λs' I'=>⟨_,H,I',h⟩) hf)
def Aek:t6:=λvs σ H Q=>vs=[]/\Q σ H
def Zzu(t:TG)(u:t6):t6:=λvs σ H Q=>∃v r,vs=v::r/\t v σ H λσ' H'=>u r σ' H' Q
def Zvj:t7 X [] Aek:=by intro b4 s σ H vs us Q I r h;let⟨e,h⟩:=h;subst e;cases r;exact assignInOrder_nil ⟨σ,H,I,h⟩
def ZtJ{es:List Expr}{t:TG}{u:t6}(h1:PG X e t)(h2:t7 X es u)(hs:(kJ (e::es) X.env).map (·.2)=kW e X.env::(kJ es X.env).map (·.2):=by rfl):t7 X (e::es) (Zzu t u):=by
 intro b4 s σ H vs us Q I r h;let⟨v,Zlv,e1,h⟩:=h;subst e1;cases r with
 |cons r rr=>rw[hs];refine assignInOrder_cons<|aP (h1 b4 s σ H _ _ _ I r h) λ_ s1 ak=>?_;let⟨σ1,H1,I1,q1⟩:=ak;exact h2 b4 s1 σ1 H1 _ _ Q I1 rr q1
def Ael(K:Yb)(n:Nat)(t:t6):TG:=λv σ H Q=>∃a xs,v= .ref a/\dJ K H a xs/\xs.length=n/\t xs σ H Q
def ZxQ{es:List Expr}{k:Nat}{t:t6}{n:Nat}(hc:X.calm=true)(h:t7 X es t)(hn:(kJ es X.env).length=n:=by rfl)(r_:(kJ es X.env).findIdx? (·.1)=Yj:=by rfl):PG X (.Tuple es k pos) (Ael X.K n t):=by intro b4 s σ H v u Q I r hw;let⟨a,xs,e1,hq,hl,hw⟩:=hw;subst e1;cases r;let⟨b6,rv,ht,hz⟩:=I.tuple hq;refine assign_Tuple_tuple (I.ok.hd hc) ht (by simp[hn,<-hl,rv.length]) r_ λh' hx=>?_;have I1:Inv X b4 σ H {s with heap:=h'}:=I.kept (t':=s.toks) λb o e=>hx b o (d8<|Y3 e) e;exact h b4 _ σ H xs _ Q I1 (by simpa using rv) hw
def Aem(to ti:TE)(t:Wd):TG:=λv σ H Q=>to σ H λo H1=>ti σ H1 λi H2=>t o i v H2 λH3=>Q σ H3
def Zwg{o i:Expr}{to ti:TE}{t:Wd}(ho:PE X o to)(hi:PE X i ti)(hs:Pw X t)(ha:∀v,kW (.Subscript o i pos) X.env v=(do
   let ov ←wI [v] (aO o X.env)
   let iv ←wI [v,ov] (aO i X.env)
   Ej pos
   wI [v,ov,iv] (setItem ov iv v)
   release [v,ov,iv] []):=by intro _;rfl):PG X (.Subscript o i pos) (Aem to ti t):=by
 intro b4 s σ H v u Q I r h;rw[ha];refine Yc<|fW<|aP (ho b4 s σ H _ I h) λov s1 ak=>?_;let⟨x,H1,I1,r1,q1⟩:=ak;refine Yc<|fW<|aP (hi b4 s1 σ H1 _ I1 q1) λiv s2 ak=>?_;let⟨y,H2,I2,r2,q2⟩:=ak;refine Yc<|tD<|Yc<|fW<|aP (hs b4 s2 σ H2 x y v ov iv u _ I2 r1 r2 r q2) λ_ s3 ak=>?_;let⟨H3,I3,q3⟩:=ak;exact wpAny_release ⟨σ,H3,I3,q3⟩
def PF(te:TE)(g:TG):TS:=λD σ H=>te σ H λx H1=>g x σ H1 D.nx
def PH{te:TE}{g:TG}(he:PE X e te)(hg:PG X tg g)(hs:T7 [tg] e pos.line X.env=pure false:=by rfl)(hw:T8 [tg] e X.env=pure Yj:=by rfl)(h1:(kJ [tg] X.env).map (·.2)=[kW tg X.env]:=by rfl):PS X (.Assign [tg] e pos) (PF te g):=by intro b4 s σ H D I h;refine wpAny_Assign_stores (aP (he b4 s σ H _ I h) λv s1 ak=>?_) hs hw;let⟨x,H1,I1,r1,q1⟩:=ak;rw[h1];exact aP (hg b4 s1 σ H1 x v _ I1 r1 q1) λ_ s2 q=>q
def PM{i:Nat}{x:aj}{te:TE}{pos':a_}(hN:X.N.Nodup)(hi:X.N[i]?=O x)(hx:Loc X.env.scope x)(he:PE X e te)(hs:tG e (O<|.Name x pos') pos.line X.env=pure false:=by rfl)(hf:X.fn x=true\/X.env.scope.names.lookup x=O .local:=by first|exact .inl rfl|exact .inr rfl|assumption):
  PS X (.Assign [.Name x pos'] e pos) (PF te<|PC i):=by
 intro b4 s σ H D I h;refine wpAny_Assign_Name (aP (he b4 s σ H _ I h) λv s1 ak=>?_) hs;let⟨y,H1,I1,r1,q1⟩:=ak;exact V7 I1 hN hi hx r1 (λs2 I2=>⟨_,H1,I2,q1⟩) hf
end
section
variable {X:Cx} {pos:a_}
def ZwR(c:TT)(tb:TS):TS:=λD σ H=>∃W:Nat->St->Hp->Prop,(∃m,W m σ H)/\∀m σ H,W m σ H ->
 c σ H λb H1=>if b=true then∃N:St->Hp->Prop,(∀σ' H',N σ' H'->∃m',m'<m/\W m' σ' H')/\tb {D with nx:=N,ct:=N,bk:=D.nx} σ H1 else D.nx σ H1
def Zts{c:Expr}{body:List Ydv}{tc:TT}{tb:TS}(hp:Uk (aA X.prog X.w) X.A X.env X.xe)(hc:PT X c tc)(hb:lz X body tb):PS X (.While c body [] pos) (ZwR tc tb):=by
 intro b4 s σ H D I h;let⟨W,⟨m0,w0⟩,turn⟩:=h;refine wpAny_While<|codeAny_whileLoop (λn s'=>∃σ' H',Inv X b4 σ' H' s'/\W n σ' H') ?_ m0 ⟨σ,H,I,w0⟩;rintro n s1 ⟨σ1,H1,I1,w1⟩;refine Aq hp<|aP (hc b4 s1 σ1 H1 _ I1<|turn n σ1 H1 w1) λb s2 ak=>?_;let⟨H2,I2,q2⟩:=ak;cases b with
 | true=>
  let⟨N,hN,q2⟩:=q2;rw[c_ J];refine Aq hp<|aP (hb b4 s2 σ1 H2 _ I2 q2) λf s3 q3=>?_;cases f with
  |next=>let⟨σ3,H3,I3,n3⟩:=q3;let⟨m',hm,w3⟩:=hN σ3 H3 n3;exact⟨m',hm,σ3,H3,I3,w3⟩|cont=>let⟨σ3,H3,I3,n3⟩:=q3;let⟨m',hm,w3⟩:=hN σ3 H3 n3;exact⟨m',hm,σ3,H3,I3,w3⟩|brk=>exact q3|ret v=>exact q3
 |false=>rw[d4 mY];exact Hs ⟨σ1,H2,I2,q2⟩
end
structure It where
 go:Nat->Hp->Prop
 Pn:Nat->Hp->V->Hp->Prop
 stop:Nat->Hp->Prop
def jy(X:Cx)(b4:List (Yy×aK))(H:Hp)(b:Yy):Prop:=H b=Yj/\b≠X.env.locals/\b∉X.fs/\(b∈X.ex\/X.s₀.heap.objs.size<=b)/\(∀x c,X.env.cells.lookup x=O c->c≠b)/\∀p∈X.pn++b4,p.1≠b
def Inv.yj{X:Cx}{b4:List (Yy×aK)}{σ:St}{H H':Hp}{s:Yl}{b:Yy}(I:Inv X b4 σ H s)(hb:c6 s<=b)(hn:H' b=Yj):jy X b4 H' b:=by
 refine⟨hn,Bb<|Y5 I.lt hb,I.Aec hb,.inr<|Yi I.sz hb,λx c e z=>?_,λp hp z=>?_⟩
 .let⟨v,q⟩:=I.cell x c e;exact k9 (Y5 q.lt<|by rwa[z])<|wM _
 .exact k9 (Y5 (Y3 (I.pin p hp).1)<|by rwa[z])<|wM _
structure Turn(P:Y9)(w:aQ)(K:Yb)(tg:Expr)(i4:It)(fp:List Yy)(it:Yy)(tn:Nat->aH->Prop):Prop where
 mem:it∈fp
 obj:∀i h,tn i h->∀b∈fp,∃o,h.get? b=O o/\∀v,o.data≠ .cell v
 keep:∀i h h',tn i h->(∀b∈fp,∀o,h.get? b=O o->h'.get? b=O o)->tn i h'
 item:∀(X:Cx),X.prog=P->X.w=w->X.K=K->X.calm=true->∀(i:Nat) (b4:List (Yy×aK)) (s:Yl) (σ:St) (H:Hp) (E:Yh->Yl->Prop),Inv X b4 σ H s->(∀b∈fp,jy X b4 H b)->tn i s.heap->i4.go i H ->
  aq (aA P w) X.A (wJ<|.ref it) (λr s1=>∃u,r=O u/\
   aq (aA P w) X.A (Ht tg (.ref it) u) (λ_ s2=>∃x H',Inv X b4 σ H' s2/\RelV x u/\i4.Pn i H x H'/\tn (i+1) s2.heap/\∀b∈fp,H' b=Yj) E s1) E s
 done:∀(X:Cx),X.prog=P->X.w=w->X.K=K->X.calm=true->∀(i:Nat) (b4:List (Yy×aK)) (s:Yl) (σ:St) (H:Hp) (E:Yh->Yl->Prop),Inv X b4 σ H s->(∀b∈fp,jy X b4 H b)->tn i s.heap->i4.stop i H ->
  aq (aA P w) X.A (wJ<|.ref it) (λr s1=>r=Yj/\Inv X b4 σ H s1) E s
 self:∀(A:bG) (i:Nat) (s:Yl) (Q:Yh->Yl->Prop) (E:Yh->Yl->Prop),tn i s.heap->Q (.ref it) s->aq (aA P w) A (Em<|.ref it) Q E s
abbrev TI:=St->Hp->(It->Hp->Prop)->Prop
def De(X:Cx)(b4:List (Yy×aK))(σ:St)(tg:Expr)(R:It->Hp->Prop)(AN:Yh)(s2:Yl):Prop:=∃(it:Yy) (fp:List Yy) (tn:Nat->aH->Prop) (i4:It) (H':Hp),AN= .ref it/\Inv X b4 σ H' s2/\Turn X.prog X.w X.K tg i4 fp it tn/\tn 0 s2.heap/\(∀b∈fp,jy X b4 H' b)/\R i4 H'
def PI(X:Cx)(tg iter:Expr)(wi:TI):Prop:=
 ∀(b4:List (Yy×aK)) (s:Yl) (σ:St) (H:Hp) (R:It->Hp->Prop),Inv X b4 σ H s->wi σ H R ->
  aq (aA X.prog X.w) X.A (aO iter X.env) (λv s1=>aq (aA X.prog X.w) X.A (Em v) (De X b4 σ tg R) X.xe s1) X.xe s
def Pq{M:Model}{A:bG}{E:Yh->Yl->Prop}{s:Yl}{it:Yy}{u:Yh}{o:aK}{n:String}{vs:Array Yh}{Q:Unit->Yl->Prop}(ho:s.heap.get? it=O o)(hc:o.cls= .type n)(hd:o.data= .fields vs)(hn:BU.contains n=false)(hQ:Q () s):aq M A (Ht tg (.ref it) u) Q E s:=by
 unfold Ht;cases tg<;>first
  |exact Yr hQ
  | (cases u<;>first
    |exact Yr hQ
    | (refine Yc (wpAny_load ho ?_)
       rw[hc,hd];show aq M A (if(BU.contains n&&vs[0]?==O (nU _))=true then _ else _) Q E s;rw[d4 (by intro h;rw[hn,yU]at h;cases h)];exact Yr hQ))
def PR(K:Yb)(a:Yy):It:=⟨λi H=>∃xs x,bV K H a xs/\xs[i]?=O x,λi H x H'=>H'=H/\∀xs,bV K H a xs->xs[i]?=O x,λi H=>∃xs,bV K H a xs/\xs.length<=i⟩
def PU(K:Yb)(a:Yy):It:=⟨λi H=>∃xs x,dJ K H a xs/\xs[i]?=O x,λi H x H'=>H'=H/\∀xs,dJ K H a xs->xs[i]?=O x,λi H=>∃xs,dJ K H a xs/\xs.length<=i⟩
def Pr(lo:Int)(n:Nat):It:=⟨λi _=>i<n,λi H x H'=>H'=H/\x= .int (lo+i),λi _=>n<=i⟩
def ZqH{P:Y9}{w:aQ}(a it:Yy):Turn P w K tg (PR K a) [it] it (λi h=>h.IsListIter it a i)where
 mem:=by simp
 obj:=λi h st b hb=>by
  have e:b=it:=by simpa using hb
  subst e;let⟨o,e,c,d⟩:=st;exact⟨o,e,λv z=>by rw[d]at z;cases z⟩
 keep:=λi h h' st k=>st.at λo e=>k it i9 o e
 item:=by intro X hP hw hK hc i b4 s σ H E I hf st hg;subst hP hw hK;let⟨xs,x,hq,hx⟩:=hg;let⟨b6,rv,p,hz⟩:=I.list hq;let⟨u,hu,ru⟩:=rv.get hx;let⟨f0,f1,f2,f3,f4,f5⟩:=hf it i9;refine IM st p.isList (x:=u) (by simpa using hu) λh' tJ sb=>?_;have I1:Inv X b4 σ H {s with heap:=h'}:=I.turned (t':=s.toks) (λb o hb e=>(sb.2 b hb).trans e) f0 f1 f3 f4 f5;let⟨o,e,c,d⟩:=id tJ;exact⟨u,rfl,Pq (s:={s with heap:=h'}) e c d aaA ⟨x,H,I1,ru,⟨rfl,λys hy=>by rwa[I.Su hy hq]⟩,tJ,λb hb=>(hf b hb).1⟩⟩
 done:=by intro X hP hw hK hc i b4 s σ H E I hf st hg;subst hP hw hK;let⟨xs,hq,hx⟩:=hg;let⟨b6,rv,p,hz⟩:=I.list hq;let⟨f0,f1,f2,f3,f4,f5⟩:=hf it i9;have hl:=rv.length;exact IS (I.ok.hd hc) st p.isList r0 λh' eb=>⟨rfl,I.turned (t':=s.toks) (λb o hb e=>eb b o hb e) f0 f1 f3 f4 f5⟩
 self:=λ_ _ _ _ _ st h=>wpAny_pyIter_listiter st h
def ZoT{P:Y9}{w:aQ}(a it:Yy):Turn P w K tg (PU K a) [it] it (λi h=>h.IsTupleIter it a i)where
 mem:=by simp
 obj:=λi h st b hb=>by
  have e:b=it:=by simpa using hb
  subst e;let⟨o,e,c,d⟩:=st;exact⟨o,e,λv z=>by rw[d]at z;cases z⟩
 keep:=λi h h' st k=>st.at λo e=>k it i9 o e
 item:=by intro X hP hw hK hc i b4 s σ H E I hf st hg;subst hP hw hK;let⟨xs,x,hq,hx⟩:=hg;let⟨b6,rv,p,hz⟩:=I.tuple hq;let⟨u,hu,ru⟩:=rv.get hx;let⟨f0,f1,f2,f3,f4,f5⟩:=hf it i9;refine wpAny_pyNext_tuple_item st (show s.heap.IsTuple a b6.toArray from p) (x:=u) (by simpa using hu) λh' tJ sb=>?_;have I1:Inv X b4 σ H {s with heap:=h'}:=I.turned (t':=s.toks) (λb o hb e=>(sb.2 b hb).trans e) f0 f1 f3 f4 f5;let⟨o,e,c,d⟩:=id tJ;exact⟨u,rfl,Pq (s:={s with heap:=h'}) e c d aaA ⟨x,H,I1,ru,⟨rfl,λys hy=>by rwa[I.Sg hy hq]⟩,tJ,λb hb=>(hf b hb).1⟩⟩
 done:=by intro X hP hw hK hc i b4 s σ H E I hf st hg;subst hP hw hK;let⟨xs,hq,hx⟩:=hg;let⟨b6,rv,p,hz⟩:=I.tuple hq;let⟨f0,f1,f2,f3,f4,f5⟩:=hf it i9;have hl:=rv.length;exact wpAny_pyNext_tuple_end (I.ok.hd hc) st (show s.heap.IsTuple a b6.toArray from p) r0 λh' eb=>⟨rfl,I.turned (t':=s.toks) (λb o hb e=>eb b o hb e) f0 f1 f3 f4 f5⟩
 self:=λ_ _ _ _ _ st h=>wpAny_pyIter_tupleiter st h
def Zos{P:Y9}{w:aQ}(it:Yy)(lo:Int)(n:Nat):Turn P w K tg (Pr lo n) [it] it (λi h=>IsRangeIter h it (lo+(i:Nat)*1) ((n:Int)-(i:Nat)) 1)where
 mem:=by simp
 obj:=λi h st b hb=>by
  have e:b=it:=by simpa using hb
  subst e;exact⟨_,st,λv z=>by have z':Data.fields _=Data.cell v:=z;cases z'⟩
 keep:=λi h h' st k=>k it i9 _ st
 item:=by intro X hP hw hK hc i b4 s σ H E I hf st hg;subst hP hw hK;let⟨f0,f1,f2,f3,f4,f5⟩:=hf it i9;have W:=Walks.range (prog:=X.prog) (w:=X.w) (I.ok.hd hc) it lo 1 n;refine W.item i s _ _ hg st λv h' tk hv tJ kk=>?_;let⟨t,rfl⟩:=hv;have I1:Inv X b4 σ H {s with heap:=h',toks:=tk}:=I.turned (λb o hb e=>kk b o (by simpa using hb) e) f0 f1 f3 f4 f5;refine⟨_,rfl,Pq (s:={s with heap:=h',toks:=tk}) (n:="range_iterator") tJ J J aaA ⟨.int<|lo+i,H,I1,⟨t,?_⟩,⟨rfl,rfl⟩,tJ,λb hb=>(hf b hb).1⟩⟩;rw[Int.mul_one]
 done:=by intro X hP hw hK hc i b4 s σ H E I hf st hg;subst hP hw hK;let⟨f0,f1,f2,f3,f4,f5⟩:=hf it i9;exact wpAny_pyNext_range_end (I.ok.hd hc) st (by have:n<=i:=hg;omega) λh' eb=>⟨rfl,I.turned (t':=s.toks) (λb o hb e=>eb b o hb e) f0 f1 f3 f4 f5⟩
 self:=λ_ _ _ _ _ st h=>wpAny_pyIter_rangeiter st h
end L2
namespace L2
open PySem PySem.Spec PyProof.Rows
variable{fp:List Yy}{b4:List (Yy×aK)}
section
variable {X:Cx} {tg:Expr}
def Zzq(K:Yb)(tl:TE):TI:=λσ H R=>tl σ H λx H1=>∃a,x= .ref a/\(∃xs,bV K H1 a xs)/\R (PR K a) H1
def Aen(K:Yb)(tl:TE):TI:=λσ H R=>tl σ H λx H1=>∃a,x= .ref a/\(∃xs,dJ K H1 a xs)/\R (PU K a) H1
def ZuX{l:Expr}{tl:TE}(hl:PE X l tl):PI X tg l (Zzq X.K tl):=by
 intro b4 s σ H R I h;refine aP (hl b4 s σ H _ I h) λv s1 ak=>?_;let⟨x,H1,I1,r1,q1⟩:=ak;let⟨a,e,⟨xs,hq⟩,q⟩:=q1;subst e;cases r1;let⟨b6,rv,p,hz⟩:=I1.list hq;refine yt p.isList ?_;refine⟨c6 s1,[c6 s1],_,_,H1,rfl,I1.kept (t':=s1.toks) λb o e=>Yn _ e,ZqH a _,⟨_,Y6 _ J,rfl,rfl⟩,λb hb=>?_,q⟩;have e:b=c6 s1:=by simpa using hb
 subst e;exact I1.yj (Yu _)<|I1.i6.fresh<|Yu _
def Zw2{l:Expr}{tl:TE}(hl:PE X l tl):PI X tg l (Aen X.K tl):=by
 intro b4 s σ H R I h;refine aP (hl b4 s σ H _ I h) λv s1 ak=>?_;let⟨x,H1,I1,r1,q1⟩:=ak;let⟨a,e,⟨xs,hq⟩,q⟩:=q1;subst e;cases r1;let⟨b6,rv,p,hz⟩:=I1.tuple hq;refine MK (show s1.heap.IsTuple a b6.toArray from p) ?_;refine⟨c6 s1,[c6 s1],_,_,H1,rfl,I1.kept (t':=s1.toks) λb o e=>Yn _ e,ZoT a _,⟨_,Y6 _ J,rfl,rfl⟩,λb hb=>?_,q⟩;have e:b=c6 s1:=by simpa using hb
 subst e;exact I1.yj (Yu _)<|I1.i6.fresh<|Yu _
def Zrk{σ:St}{H:Hp}{s:Yl}{R:It->Hp->Prop}{E:Yh->Yl->Prop}{lo hi:Int}{t u v:gq}{tk:Nat}(I:Inv X b4 σ H s)(h1:-(2^62)<=lo)(h2:lo<2^62)(h3:-(2^62)<=hi)(h4:hi<2^62)(q:R (Pr lo (hi-lo).toNat) H):aq (aA X.prog X.w) X.A (Em<|.ref<|c6 s) (De X b4 σ tg R) E {s with heap:=s.heap.push {cls:=.type "range",data:=.fields #[.int lo t,.int hi u,.int 1 v]},toks:=tk}:=by
 refine wpAny_pyIter_range (IsRange.new ..) (small_one h1 h2 h3 h4) ?_;have I1:Inv X b4 σ H {s with heap:=s.heap.push {cls:=.type "range",data:=.fields #[.int lo t,.int hi u,.int 1 v]},toks:=tk}:=I.kept λb o e=>Yn _ e;refine⟨(s.heap.push {cls:=.type "range",data:=.fields #[.int lo t,.int hi u,.int 1 v]}).objs.size,[(s.heap.push {cls:=.type "range",data:=.fields #[.int lo t,.int hi u,.int 1 v]}).objs.size],_,_,H,rfl,
  I1.kept (t':=tk) λb o e=>Yn _ e,Zos _ lo (hi-lo).toNat,?_,λb hb=>?_,q⟩
 .have e1:lo+((0:Nat):Int)*1=lo:=by simp
  have e2:(((hi-lo).toNat:Nat):Int)-((0:Nat):Int)=Builtin.Range.rangeSize lo hi 1:=by rw[rangeSize_one];split <;>omega
  show IsRangeIter _ _ (lo+((0:Nat):Int)*1) ((((hi-lo).toNat:Nat):Int)-((0:Nat):Int)) 1;rw[e1,e2];exact Y6 _ J
 .have e:b=(s.heap.push {cls:=.type "range",data:=.fields #[.int lo t,.int hi u,.int 1 v]}).objs.size:=by simpa using hb
  subst e;exact I1.yj (Yu _)<|I1.i6.fresh<|Yu _
def ZyR(ta:TA):TI:=λσ H R=>ta σ H λvs H1=>∃j:Int,vs=[.int j]/\ -(2^62)<=j/\j<2^62/\R (Pr 0 j.toNat) H1
def Zq4{a:Expr}{ta:TA}{p pos:a_}(hg:Gl X "range")(hm:X.mg "range" =Yj)(ha:PA X [a] ta)(hs:Yv [a] X.env=[(false,aO a X.env)]:=by rfl):PI X tg (.Call (.Name "range" p) [a] [] pos) (ZyR ta):=by
 intro b4 s σ H R I h;refine Call_<|Bm I hg hm boot_range<|Vl (aP (ha pos b4 s σ H _ I h) λus s1 ak=>?_) hs J;let⟨vs,H1,I1,r1,q1⟩:=ak;let⟨j,e,q1,q2,q⟩:=q1;subst e;cases r1 with
 |cons r rr=>
  cases rr
  let⟨t,rfl⟩:=r;exact call_range_1 (Zrk I1 b5 b5 q1 q2<|by simpa using q)
def Aeo(wi:TI)(g:TG)(tb:TS):TS:=λD σ H=>wi σ H λi4 H1=>∃W:Nat->Nat->St->Hp->Prop,(∃m,W 0 m σ H1)/\∀i m σ H,W i m σ H ->
 (i4.stop i H/\D.nx σ H)\/(i4.go i H/\∃N:St->Hp->Prop,(∀σ' H',N σ' H'->∃m',m'<m/\W (i+1) m' σ' H')/\∀x H',i4.Pn i H x H'->g x σ H' λσ2 H2=>tb {D with nx:=N,ct:=N,bk:=D.nx} σ2 H2)
def wU(fp:List Yy)(h:aH):List (Yy×aK):=fp.filterMap λb=>(h.get? b).map λo=>(b,o)
def Fe{h:aH}{b:Yy}{o:aK}(hb:b∈fp)(e:h.get? b=O o):(b,o)∈wU fp h:=NQ.mpr ⟨b,hb,by rw[e];rfl⟩
def ZqE{h:aH}{p:Yy×aK}(hp:p∈wU fp h):p.1∈fp/\h.get? p.1=O p.2:=by
 let⟨b,hb,e⟩:=NQ.mp hp;cases q:h.get? b with
 |none=>rw[q]at e;cases e|some o=>rw[q]at e;have e':(b,o)=p:=fM e;subst e';exact⟨hb,q⟩
def Inv.pinned{σ:St}{H:Hp}{s:Yl}(I:Inv X b4 σ H s)(hf:∀b∈fp,jy X b4 H b)(ho:∀b∈fp,∃o,s.heap.get? b=O o/\∀v,o.data≠ .cell v):Inv X (b4++wU fp s.heap) σ H s:=I.O0 λp hp=>(gF.mp hp).elim (λz=>I.pin p<|Y2 _ z) λz=>by let⟨hb,e⟩:=ZqE z;let⟨f0,f1,f2,_⟩:=hf p.1 hb;let⟨o,e',d⟩:=ho p.1 hb;rw[e]at e';cases e';exact⟨e,f0,f1,f2,d⟩
def Inv.G9{pl:List (Yy×aK)}{σ:St}{H:Hp}{s:Yl}(I:Inv X (b4++pl) σ H s):Inv X b4 σ H s:=I.O0 λp hp=>I.pin p<|Y2 _<|pB _ hp
def PV{iter:Expr}{body:List Ydv}{wi:TI}{g:TG}{tb:TS}{pos:a_}(hp:Uk (aA X.prog X.w) X.A X.env X.xe)(hc:X.calm=true)(hi:PI X tg iter wi)(hg:PG X tg g)(hb:lz X body tb)(hs:∀x,Ao iter X.env x=pure x:=by intro _;rfl):PS X (.For tg iter body [] pos) (Aeo wi g tb):=by
 intro b4 s σ H D I h;refine wpAny_For (aP (hi b4 s σ H _ I h) λv s1 h1=>aP h1 λAN s2 h2=>?_) hs;let⟨it,fp,tn,i4,H2,e,I2,T,xn,f2,W,⟨m0,w0⟩,turn⟩:=h2;subst e;have zv:∀{H':Hp},(∀b∈fp,H' b=Yj)->∀b∈fp,jy X b4 H' b:=λhn b hb=>⟨hn b hb,(f2 b hb).2⟩;refine codeAny_forLoop_any (λn s'=>∃i σ' H',Inv X b4 σ' H' s'/\tn i s'.heap/\(∀b∈fp,H' b=Yj)/\W i n σ' H') ?_ m0 ⟨0,σ,H2,I2,xn,λb hb=>(f2 b hb).1,w0⟩;rintro n s3 ⟨i,σ3,H3,I3,st3,Pu,w3⟩;rcases turn i n σ3 H3 w3 with⟨stop,hL2⟩|⟨go,N,hN,step⟩
 .refine Aq hp<|aP (T.done X J J J hc i b4 s3 σ3 H3 X.xe I3 (zv Pu) st3 stop) λr s4 ⟨hr,I4⟩=>?_;subst hr;exact Hs ⟨σ3,H3,I4,hL2⟩
 .refine Aq hp<|aP (T.item X J J J hc i b4 s3 σ3 H3 X.xe I3 (zv Pu) st3 go) λr s4 ⟨u,hr,h4⟩=>?_;subst hr;refine Aq hp<|aP h4 λ_ s5 ak=>?_;let⟨x,H5,I5,r5,ZrD,n8,rE⟩:=ak;have Wf:=I5.pinned (zv rE)<|T.obj _ _ n8;refine Aq hp<|aP (hg _ s5 σ3 H5 x u _ Wf r5<|step x H5 ZrD) λ_ s6 ak=>?_;let⟨hl1,Zlc,I6,ZjL⟩:=ak;refine Aq hp<|aP (hb _ s6 hl1 Zlc _ I6 ZjL) λf s7 q7=>?_;have again:∀{σ7:St} {H7:Hp},Inv X (b4++wU fp s5.heap) σ7 H7 s7->N σ7 H7->∃m,m<n/\∃i σ' H',Inv X b4 σ' H' s7/\tn i s7.heap/\(∀b∈fp,H' b=Yj)/\W i m σ' H':=λ{σ7 H7} I7 n7=>by
   let⟨m',hm,Zqb⟩:=hN σ7 H7 n7;refine⟨m',hm,i+1,σ7,H7,I7.G9,T.keep _ _ _ n8 λb hb o e=>(I7.pin (b,o)<|Y2 _<|Y2 _<|Fe hb e).1,λb hb=>?_,Zqb⟩;let⟨o,e,d⟩:=T.obj _ _ n8 b hb;exact(I7.pin (b,o)<|Y2 _<|Y2 _<|Fe hb e).2.1
  cases f with
  |next=>let⟨σ7,H7,I7,n7⟩:=q7;exact again I7 n7|cont=>let⟨σ7,H7,I7,n7⟩:=q7;exact again I7 n7|brk=>let⟨σ7,H7,I7,q7⟩:=q7;exact⟨σ7,H7,I7.G9,q7⟩|ret v=>let⟨x7,σ7,H7,I7,r7,q7⟩:=q7;exact⟨x7,σ7,H7,I7.G9,r7,q7⟩
end
end L2
namespace L2
open PySem PySem.Spec PyProof.Rows
abbrev R2:=V->V->Hp->VK->Prop
def bA(X:Cx)(f:Yh->Yh->nW Yh)(r:R2):Prop:=
 ∀(b4:List (Yy×aK)) (s:Yl) (σ:St) (H:Hp) (x y:V) (v u:Yh) (Q:VK),Inv X b4 σ H s->RelV x v->RelV y u->r x y H Q ->
  aq (aA X.prog X.w) X.A (f v u) (EP X b4 σ Q) X.xe s
def wV(X:Cx)(f:Yh->nW Yh)(r:V->Hp->VK->Prop):Prop:=
 ∀(b4:List (Yy×aK)) (s:Yl) (σ:St) (H:Hp) (x:V) (v:Yh) (Q:VK),Inv X b4 σ H s->RelV x v->r x H Q ->
  aq (aA X.prog X.w) X.A (f v) (EP X b4 σ Q) X.xe s
def dB(X:Cx)(f:Yh)(r:List V->Hp->VK->Prop):Prop:=
 ∀(b4:List (Yy×aK)) (s:Yl) (σ:St) (H:Hp) (xs:List V) (us:List Yh) (Q:VK),Inv X b4 σ H s->Vals xs us->r xs H Q ->
  aq (aA X.prog X.w) X.A (call f us) (EP X b4 σ Q) X.xe s
def Ff(r:R2)(ta tb:TE):TE:=λσ H Q=>ta σ H λx H1=>tb σ H1 λy H2=>r x y H2 Q
def PY(r:V->Hp->VK->Prop)(ta:TE):TE:=λσ H Q=>ta σ H λx H1=>r x H1 Q
def rI(C:Int->Int->Prop)(g:Int->Int->V):R2:=λx y H Q=>∃i j,x= .int i/\y= .int j/\C i j/\Q (g i j) H
def Bo(g:Int->Int->V):R2:=λx y H Q=>∃i j,x= .int i/\y= .int j/\Q (g i j) H
def rU(g:Int->V):V->Hp->VK->Prop:=λx H Q=>∃i,x= .int i/\Q (g i) H
variable{b4:List (Yy×aK)}{f:Yh->Yh->nW Yh}{r:R2}
section
variable {X:Cx} {a b c:Expr} {ta tb tc:TE} {pos:a_}
def Wg(ha:PE X a ta)(hb:PE X b tb){s:Yl}{σ:St}{H:Hp}{R:V->V->Hp->Prop}(I:Inv X b4 σ H s)(h:ta σ H λx H1=>tb σ H1 λy H2=>R x y H2){Q:Yh->Yl->Prop}(hf:∀v u s2 x y H2,Inv X b4 σ H2 s2->RelV x v->RelV y u->R x y H2->aq (aA X.prog X.w) X.A (f v u) Q X.xe s2):
  aq (aA X.prog X.w) X.A (aO a X.env) (λv s₁=>aq (aA X.prog X.w) X.A (aO b X.env) (λu s₂=>aq (aA X.prog X.w) X.A (f v u) Q X.xe s₂) X.xe s₁) X.xe s:=by
 refine aP (ha b4 s σ H _ I h) λv s1 ak=>?_;let⟨x,H1,I1,r1,q1⟩:=ak;refine aP (hb b4 s1 σ H1 _ I1 q1) λu s2 ak=>?_;let⟨y,H2,I2,r2,q2⟩:=ak;exact hf v u s2 x y H2 I2 r1 r2 q2
def ZyK{op:Operator}(ho:bA X (jM op) r)(ha:PE X a ta)(hb:PE X b tb):PE X (.BinOp a op b pos) (Ff r ta tb):=by intro b4 s σ H Q I h;exact wpAny_BinOp<|Wg ha hb I h λv u s2 x y H2 I2 rx ry q=>ho b4 s2 σ H2 x y v u Q I2 rx ry q
def ZzV{op:UnaryOp}{r:V->Hp->VK->Prop}(ho:wV X (Nm op) r)(ha:PE X a ta):PE X (.UnaryOp op a pos) (PY r ta):=by intro b4 s σ H Q I h;exact UnaryOp_<|aP (ha b4 s σ H _ I h) λv s1 ⟨x,H1,I1,r1,q1⟩=>ho b4 s1 σ H1 x v Q I1 r1 q1
def Px{C:Int->Int->Prop}{g:Int->Int->Int}(rule:∀(i j:Int) (t u:gq) (s:Yl) (Q:Yh->Yl->Prop) (E:Yh->Yl->Prop),C i j->Q (.int (g i j) s.toks) {s with toks:=s.toks+1}->aq (aA X.prog X.w) X.A (f (.int i t)<|.int j u) Q E s):
  bA X f (rI C λi j=>.int<|g i j):=by
 intro b4 s σ H x y v u Q I rx ry h;let⟨i,j,rfl,rfl,hc,q⟩:=h;let⟨t,rfl⟩:=rx;let⟨t',rfl⟩:=ry;exact rule i j t t' s _ _ hc ⟨.int<|g i j,H,I.tok _,⟨_,rfl⟩,q⟩
def PZ{g:Int->Int->Int}(rule:∀(i j:Int) (t u:gq) (s:Yl) (Q:Yh->Yl->Prop) (E:Yh->Yl->Prop),Q (.int (g i j) s.toks) {s with toks:=s.toks+1}->aq (aA X.prog X.w) X.A (f (.int i t)<|.int j u) Q E s):
  bA X f (Bo λi j=>.int<|g i j):=by
 intro b4 s σ H x y v u Q I rx ry h;let⟨i,j,rfl,rfl,q⟩:=h;let⟨t,rfl⟩:=rx;let⟨t',rfl⟩:=ry;exact rule i j t t' s _ _ ⟨.int<|g i j,H,I.tok _,⟨_,rfl⟩,q⟩
def Wh{g:Int->Int->Bool}(rule:∀(i j:Int) (t u:gq) (s:Yl) (Q:Yh->Yl->Prop) (E:Yh->Yl->Prop),Q (.bool<|g i j) s->aq (aA X.prog X.w) X.A (f (.int i t)<|.int j u) Q E s):
  bA X f (Bo λi j=>.bl<|g i j):=by
 intro b4 s σ H x y v u Q I rx ry h;let⟨i,j,rfl,rfl,q⟩:=h;let⟨t,rfl⟩:=rx;let⟨t',rfl⟩:=ry;exact rule i j t t' s _ _ ⟨.bl<|g i j,H,I,rfl,q⟩
def Aep(i j:Int):Prop:=0<j/\j<1073741824
def Aeq(i j:Int):Prop:=0<=j/\j<=1000000/\i.natAbs<2^64
def Wi(i j:Int):Prop:=(-(2^64)<i/\i<2^64)\/(-(2^64)<j/\j<2^64)
def Wi.ok{i j:Int}(h:Wi i j):IntMulOk i j:=by
 rcases h with⟨h1,h2⟩|⟨h1,h2⟩
 .exact .of_left<|intBits_le_64 h1 h2
 .exact .of_right<|intBits_le_64 h1 h2
def Zxl:bA X (jM .Add) (Bo λi j=>.int<|i+j):=PZ λ_ _ _ _ _ _ _ q=>add_int q
def Zwq:bA X (jM .Sub) (Bo λi j=>.int<|i-j):=PZ λ_ _ _ _ _ _ _ q=>sub_int q
def Zwm:bA X (jM .Mult) (rI Wi λi j=>.int<|i*j):=Px λ_ _ _ _ _ _ _ hc q=>mul_int q hc.ok
def ZvA:bA X (jM .FloorDiv) (rI Aep λi j=>.int<|i / j):=Px λi j _ _ _ _ _ hc q=>by have h1:(0:Int)<j:=hc.1;have h2:j<1073741824:=hc.2;exact floordiv_int b5 (by rwa[Int.fdiv_eq_ediv_of_nonneg i<|by exact Om h1])<|.inl<|PyProof.noPylong_small b5
def ZwA:bA X (jM .Mod) (rI (λ_ j=>0<j) λi j=>.int<|i % j):=Px λi j _ _ _ _ _ hc q=>by have h1:(0:Int)<j:=hc;exact mod_int' b5 (by rwa[Int.fmod_eq_emod_of_nonneg i<|by exact Om h1])
def ZxX:bA X (jM .Pow) (rI Aeq λi j=>.int<|i^j.toNat):=Px λ_ _ _ _ _ _ _ hc q=>pow_int_small hc.1 hc.2.1 hc.2.2 q
def unI{f:Yh->nW Yh}{g:Int->Int}(rule:∀(i:Int) (t:gq) (s:Yl) (Q:Yh->Yl->Prop) (E:Yh->Yl->Prop),Q (.int (g i) s.toks) {s with toks:=s.toks+1}->aq (aA X.prog X.w) X.A (f<|.int i t) Q E s):
  wV X f (rU λi=>.int<|g i):=by
 intro b4 s σ H x v Q I rx h;let⟨i,rfl,q⟩:=h;let⟨t,rfl⟩:=rx;exact rule i t s _ _ ⟨.int<|g i,H,I.tok _,⟨_,rfl⟩,q⟩
def ZwZ:wV X (Nm .USub) (rU λi=>.int<|-i):=unI λ_ _ _ _ _ q=>neg_int q
end
def Wj{i j:aj}:decide (V.str i=V.str j)=(i==j):=by rw[Ve];simp
section
variable {X:Cx} {a b c:Expr} {ta tb tc:TE} {pos:a_}
def Wk{σ:St}{H:Hp}{s:Yl}{Q:VK}{k k':Bool}(I:Inv X b4 σ H s)(q:Q (.bl k) H)(e:k=k'):EP X b4 σ Q (.bool k') s:=by subst e;exact⟨.bl k,H,I,rfl,q⟩
def ZzY:bA X (gM .Lt) (Bo λi j=>.bl<|decide<|i<j):=Wh λ_ _ _ _ _ _ _ q=>lt_int q
def ZyM:bA X (gM .LtE) (Bo λi j=>.bl<|decide<|i<=j):=Wh λ_ _ _ _ _ _ _ q=>le_int q
def Zzi:bA X (gM .Gt) (Bo λi j=>.bl<|decide<|j<i):=Wh λ_ _ _ _ _ _ _ q=>gt_int q
def Zqt:bA X (gM .In) (λx y H Q=>∃i j,x= .str i/\y= .str j/\Q (.bl<|!(Il j i 0 j.length 1).isEmpty) H):=by intro b4 s σ H x y v u Q I rx ry h;let⟨i,j,rfl,rfl,q⟩:=h;let⟨t,rfl⟩:=rx;let⟨t',rfl⟩:=ry;exact in_str<|Wk I q J
def Zwh:bA X (gM .Is) (λx y H Q=>y= .Z/\Q (.bl<|decide<|x= .Z) H):=by
 intro b4 s σ H x y v u Q I rx ry h;let⟨rfl,q⟩:=h;cases ry;refine is_none_gen<|Wk I q ?_;cases x<;>first
  |(cases rx;rfl)
  |(let⟨t,rfl⟩:=rx;rfl)
def ZuF:bA X (gM .IsNot) (λx y H Q=>y= .Z/\Q (.bl<|!decide (x= .Z)) H):=by
 intro b4 s σ H x y v u Q I rx ry h;let⟨rfl,q⟩:=h;cases ry;refine isnot_none_gen<|Wk I q ?_;cases x<;>first
  |(cases rx;rfl)
  |(let⟨t,rfl⟩:=rx;rfl)
def isObj:HO->Bool
 | .L _=>true|.ins _ _ _=>true|_=>false
def Wl{s:Yl}{σ:St}{H:Hp}{a:Yy}{o:HO}(I:Inv X b4 σ H s)(h:H a=O o)(p:isObj o=true):∃ob,s.heap.get? a=O ob/\ob.cls≠ .type "tuple":=by
 cases o with
 |L xs=>obtain⟨_,b6,n,_,e⟩:B xs<=bI/\∃(b6:List Yh) (n:Nat),Vals xs b6/\s.heap.get? a=O {cls:=.type "list",data:=.seq b6.toArray n}:=I.i6 a _ h;exact⟨_,e,(by show Value.type "list" ≠ .type "tuple";decide +kernel)⟩|ins C dx fs=>have x:=I.i6 a _ h;let⟨_,_,_,e,_⟩:=x;exact⟨_,e,(by show Value.ref C≠ .type "tuple";exactλz=>by cases z)⟩|_=>exact k9 (show false=true from p) mY
def bA.or{r':R2}(h:bA X f r)(h':bA X f r'):bA X f (λx y H Q=>r x y H Q\/r' x y H Q):=by
 intro b4 s σ H x y v u Q I rx ry q;rcases q with q|q
 .exact h b4 s σ H x y v u Q I rx ry q
 .exact h' b4 s σ H x y v u Q I rx ry q
def P4{op:CmpOp}(ho:bA X (gM op) r)(ha:PE X a ta)(hb:PE X b tb)(hm:Ar op b=false):PE X (.Compare a [op] [b] pos) (Ff r ta tb):=by intro b4 s σ H Q I h;exact wpAny_Compare1 (Wg ha hb I h λv u s2 x y H2 I2 rx ry q=>ho b4 s2 σ H2 x y v u Q I2 rx ry q) hm
def P5(t:TE):TT:=λσ H Q=>t σ H λx H'=>∃k,x= .bl k/\Q k H'
def Wm{op:CmpOp}(ho:bA X (gM op) r)(ha:PE X a ta)(hb:PE X b tb)(hm:Ar op b=false):PT X (.Compare a [op] [b] pos) (P5<|Ff r ta tb):=by intro b4 s σ H Q I h;refine wpAny_isTrue_Compare1 (aP (ha b4 s σ H _ I h) λv s1 ⟨x,H1,I1,r1,q1⟩=>aP (hb b4 s1 σ H1 _ I1 q1) λu s2 ⟨y,H2,I2,r2,q2⟩=>aP (ho b4 s2 σ H2 x y v u _ I2 r1 r2 q2) λc s3 ⟨z,H3,I3,r3,k,e,q3⟩=>?_) hm;subst e;cases r3;exact tu ⟨H3,I3,q3⟩
def ZwF(r r':R2)(ta tb tc:TE):TE:=λσ H Q=>ta σ H λx H1=>tb σ H1 λy H2=>r x y H2 λz H3=>∃k,z= .bl k/\
 (if k=true then tc σ H3 λw' H4=>r' y w' H4 Q else Q (.bl false) H3)
def ZsZ{op zw:CmpOp}{r':R2}(ho:bA X (gM op) r)(sx:bA X (gM zw) r')(ha:PE X a ta)(hb:PE X b tb)(hc:PE X c tc)(hm:lastMarks [op,zw] [b,c]=false:=by with_unfolding_all rfl):PT X (.Compare a [op,zw] [b,c] pos) (P5<|ZwF r r' ta tb tc):=by
 intro b4 s σ H Q I h;refine isTrue_chain (aP (ha b4 s σ H _ I h) λv s1 ⟨x,H1,I1,r1,q1⟩=>test_link<|aP (hb b4 s1 σ H1 _ I1 q1) λu s2 ⟨y,H2,I2,r2,q2⟩=>aP (ho b4 s2 σ H2 x y v u _ I2 r1 r2 q2) λd s3 ⟨z,H3,I3,r3,k,e,q3⟩=>?_) hm;subst e;cases r3;refine tu ?_;cases k with
 |false=>let⟨k',e',q'⟩:=q3;cases e';exact ite_ff ⟨H3,I3,q'⟩|true=>refine ite_tt<|test_last<|aP (hc b4 s3 σ H3 _ I3 q3) λw' s4 ⟨z',H4,I4,r4,q4⟩=>aP (sx b4 s4 σ H4 y z' u w' _ I4 r2 r4 q4) λd' s5 ak=>?_;let⟨z2,H5,I5,r5,k2,e2,q5⟩:=ak;subst e2;cases r5;exact tu ⟨H5,I5,q5⟩
def Jb:(bI:Nat)<2^63:=by rw[uU];decide
def Zog:bA X (jM .Add) (λx y H Q=>∃i j,x= .str i/\y= .str j/\i.length+j.length<=bI/\Q (.str<|i++j) H):=by intro b4 s σ H x y v u Q I rx ry h;let⟨i,j,rfl,rfl,hz,q⟩:=h;let⟨t,rfl⟩:=rx;let⟨t',rfl⟩:=ry;exact add_str (λt' tk=>⟨.str<|i++j,H,I.tok _,⟨_,rfl⟩,q⟩) hz
def vals1{x:V}{us:List Yh}(r:Vals [x] us):∃u,us=[u]/\RelV x u:=by
 cases r with
 |cons r1 r2=>cases r2;exact⟨_,rfl,r1⟩
def vals2{x y:V}{us:List Yh}(r:Vals [x,y] us):∃u w',us=[u,w']/\RelV x u/\RelV y w':=by
 cases r with
 |cons r1 r2=>
  cases r2 with
  |cons r3 r4=>cases r4;exact⟨_,_,rfl,r1,r3⟩
def Zql(hc:X.calm=true):dB X (.builtin "min") (λxs H Q=>∃i j,xs=[.int i,.int j]/\Q (.int<|if j<i then j else i) H):=by
 intro b4 s σ H xs us Q I r h;let⟨i,j,rfl,q⟩:=h;let⟨u,w',rfl,⟨t,rfl⟩,⟨t',rfl⟩⟩:=vals2 r;refine min_two_ints (I.ok.hd hc) λh' tk k=>⟨_,H,I.kept k,?_,q⟩;by_cases hj:j<i
 .rw[c_ hj,c_ hj];exact⟨_,rfl⟩
 .rw[d4 hj,d4 hj];exact⟨_,rfl⟩
def ZqL:dB X (.type "int") (λxs H Q=>(∃i,xs=[.int i]/\Q (.int i) H)\/∃k,xs=[.bl k]/\Q (.int<|if k then 1 else 0) H):=by
 intro b4 s σ H xs us Q I r h;rcases h with⟨i,rfl,q⟩|⟨k,rfl,q⟩
 .let⟨u,rfl,t,rfl⟩:=vals1 r;exact call_int_int ⟨.int i,H,I,⟨_,rfl⟩,q⟩
 .let⟨u,rfl,r1⟩:=vals1 r;cases r1;exact call_int_bool ⟨.int<|if k then 1 else 0,H,I.tok _,⟨_,rfl⟩,q⟩
def Zms:dB X (.type "str") (λxs H Q=>∃i,xs=[.int i]/\i.natAbs.log2<1920/\Q (.str<|yV i) H):=by intro b4 s σ H xs us Q I r h;let⟨i,rfl,hz,q⟩:=h;let⟨u,rfl,t,rfl⟩:=vals1 r;exact PySem.P.str_of_int hz ⟨.str _,H,I.tok _,⟨_,rfl⟩,q⟩
def Aer(K:Yb)(x:V)(H:Hp)(n:Nat):Prop:=
 match x with
 | .str y=>y.length<=bI/\n=y.length|.E_ y=>y.size<=bI/\n=y.size|.ref p=>(∃xs,bV K H p xs/\n=B xs)\/∃xs,dJ K H p xs/\n=B xs|_=>False
def Zs3:dB X (.builtin "len") (λxs H Q=>∃x n,xs=[x]/\Aer X.K x H n/\Q (.int n) H):=by
 intro b4 s σ H xs us Q I r h;let⟨x,n,rfl,e,q⟩:=h;let⟨u,rfl,rx⟩:=vals1 r;have hl:=Jb;have hs:bI=16777216:=uU;cases x with
 |str y=>let⟨t,rfl⟩:=rx;obtain⟨hy,e'⟩:y.length<=bI/\n=y.length:=e;subst e';exact len_str b5 ⟨.int _,H,I.tok _,⟨_,rfl⟩,q⟩|E_ y=>let⟨t,rfl⟩:=rx;obtain⟨hy,e'⟩:y.size<=bI/\n=y.size:=e;subst e';exact PySem.W.len_bytes b5 ⟨.int _,H,I.tok _,⟨_,rfl⟩,q⟩|ref p=>
  cases rx
  have e':(∃xs,bV X.K H p xs/\n=B xs)\/∃xs,dJ X.K H p xs/\n=B xs:=e;rcases e' with⟨xs,hx,e'⟩|⟨xs,hx,e'⟩
  .subst e';let⟨b6,r',pl,hz⟩:=I.list hx;have hlen:=r'.length;exact Calls.call_len_list pl.isList (by simp only[Yt];omega) ⟨.int<|B xs,H,I.tok _,⟨_,by simp only[Yt];rw[hlen]⟩,q⟩
  .subst e';let⟨b6,r',pl,hz⟩:=I.tuple hx;have hlen:=r'.length;exact len_tuple pl (by simp only[Yt];omega) ⟨.int<|B xs,H,I.tok _,⟨_,by simp only[Yt];rw[hlen]⟩,q⟩
 |_=>exact(show False from e).elim
end
end L2
namespace L2
open PySem PySem.Spec PyProof.Rows
structure Fg(h:aH)(x dx C:Yy)(mA:aj->Option Yh):Prop where
 obj:h.get? x=O (yq C dx)
 ns:h.Ns1 dx mA
 ne:dx≠x
def ZqQ{h:aH}{dx:Yy}{mA:aj->Option Yh}(n:h.Ns1 dx mA):∃od,h.get? dx=O od/\∀name,Tv name od=O (mA name):=by
 let⟨o,es,ep,ho,hd,hk,_,hm⟩:=n;refine⟨o,ho,λname=>?_⟩;have e:=hm name;unfold nsFind findBy at e;rw[<-Array.find?_toList]at e;unfold Tv;rw[hd];dsimp only;split
 .rename_i y q;rw[q]at e;exact congrArg O e
 .rename_i q;rw[q]at e;have a:es.toList.any (·.refKey)=false:=by
   rw[List.any_eq_false];intro y hy;let⟨z,t,Dx⟩:=hk y<|MU.mp hy;simp[DictEntry.refKey,Dx]
  have a':¬es.toList.any (·.refKey)=true:=by rw[a];exact mY
  rw[d4 a'];exact congrArg O e
def Fg.look{h:aH}{x dx C:Yy}{mA:aj->Option Yh}(I:Fg h x dx C mA):∃od,PySem.W.InstAt h x (yq C dx) C (O od)/\∀name,Tv name od=O (mA name):=
 let⟨od,ho,hl⟩:=ZqQ I.ns
 ⟨od,⟨I.obj,rfl,rfl,ho⟩,hl⟩
variable{Q:Yh->Yl->Prop}
section
variable {prog:Y9} {w:aQ} {A:bG} {E:Yh->Yl->Prop} {s:Yl} {K:Yb} {x dx C f:Yy} {mA:aj->Option Yh} {name:aj} {v:Yh}
def Zun{expr:Bool}(X:K.In s.heap)(I:Fg s.heap x dx C mA)(hg:Mw K C name=true)(hh:Mv K C=true)(ha:fJ K (.ref C) name=O Yj)(hv:mA name=O v)(B0:IF v=true)(h:Q v {s with toks:=s.toks+1}):
  aq (aA prog w) A (HN (.ref x) name expr) Q E s:=by
 let⟨od,i4,hl⟩:=I.look;exact PySem.W.get_value X i4 (PySem.W.plainGet_of hg).1 (PySem.W.findObj_own hh ha J<|by rw[hl,hv]) B0 h
def Zu7{ns:List aj}{Q:Unit->Yl->Prop}(X:K.In s.heap)(I:Fg s.heap x dx C mA)(hs:fJ K (.ref C) "__setattr__" =O (O<|.builtin "object.__setattr__"))(hp:Tp K C=true)(ht:Tq K C name=O Yj)(hh:Mv K C=true)(hw:T_ mA ns)(sh:B ns<=bI)(h:∀h',Fg h' x dx C (λy=>if y=name then O v else mA y)->Eu dx s.heap h'->Q () {s with heap:=h',toks:=s.toks+2}):
  aq (aA prog w) A (BS (.ref x) name v) Q E s:=by
 let⟨od,i4,hl⟩:=I.look;refine PySem.W.set_plain X i4 hs<|PySem.W.osa_open (s:={s with toks:=s.toks+1}) (r:=Yj) X i4 hp ht λb=>?_;let⟨cd,hc,vj⟩:=PySem.W.any_some hh;have hx:s.heap.get? x=O ⟨.ref C,O dx,.plain,#[]⟩:=I.obj;refine Yc<|Yr<|Yc<|Yc<|MP hx<|Yc<|PySem.W.Looks.here (s:={s with toks:=s.toks+1}) (PySem.W.looks_clsIn X hc) ?_;rw[vj];refine Yr (a:=O dx)<|Yc<|Yr<|Yc ?_;refine wpAny_nsSet1 (s:={s with toks:=s.toks+1}) I.ns λh' ua zC=>?_;let⟨ZpR,esD,epD,DA,DB,zD⟩:=ua.count<|PySem.Within.cons name v hw;refine Yc (JJ DA (by rw[DB];exact JO<|Yi zD (by rw[Yp];omega)) ?_);exact Yr<|h _ ⟨(zC.2 _<|cu I.ne).trans I.obj,ua,I.ne⟩ zC
def Zty{R:ph->Yl->Prop}{vs:List Yh}{kw:List (aj×Yh)}(X:K.In s.heap)(hm:Mx K C=true)(hi:fJ K (.ref C) "__init__" =O (O<|.ref f))(hf:uQ K (.ref f)=O (.type "function"))(h:kO (aA prog w) (A.under<|.builtin "type.__call__" ⟨.ref C::vs,kw⟩) (.call (.ref f) ⟨.ref (c6 s+1)::vs,kw⟩) (PySem.W.InitBack (c6 s+1) R)
   {s with heap:=(s.heap.push wC).push<|yq C<|c6 s}):
  kO (aA prog w) A (.call (.ref C) ⟨vs,kw⟩) R s:=by
 let⟨hh,g,d,t,os⟩:=s;exact PySem.W.make_core (PySem.W.makes_of X hm) (PySem.W.looks_findIn X hi) (λself=>PySem.W.bind_fn X self hf) (.inl J) h
end
def jZ(f:aj)(v:V):List (aj×V)->List (aj×V)
 |[]=>[(f,v)]|(g,x)::r=>if g=f then(g,v)::r else(g,x)::jZ f v r
theorem P6(f g:aj)(v:V):∀fs:List (aj×V),(jZ f v fs).lookup g=if g=f then O v else fs.lookup g
 | []=>by
  show Ba g [(f,v)]=_;by_cases h:g=f
  .have hb:(g==f)=true:=beq_iff_eq.mpr h;simp only[Ba,hb,c_ h]
  .have hb:(g==f)=false:=beq_eq_false_iff_ne.mpr h;simp only[Ba,hb,d4 h]
 | (k,x)::r=>by
  have ih:=P6 f g v r;rw[show jZ f v ((k,x)::r)=(if k=f then(k,v)::r else(k,x)::jZ f v r)from rfl];by_cases hk:k=f
  .rw[c_ hk];by_cases h:g=k
   .have hb:(g==k)=true:=beq_iff_eq.mpr h;simp only[Ba,hb,c_<|h.trans hk]
   .have hb:(g==k)=false:=beq_eq_false_iff_ne.mpr h;simp only[Ba,hb,d4 λe:g=f=>h<|e.trans hk.symm]
  .rw[d4 hk];by_cases h:g=k
   .have hb:(g==k)=true:=beq_iff_eq.mpr h;simp only[Ba,hb,d4 λe:g=f=>hk<|h.symm.trans e]
   .have hb:(g==k)=false:=beq_eq_false_iff_ne.mpr h;simp only[Ba,hb];exact ih
theorem Wn(f:aj)(v:V):∀fs:List (aj×V),f∈(jZ f v fs).map (·.1)/\∀g,g∈fs.map (·.1)->g∈(jZ f v fs).map (·.1)
 |[]=>⟨by simp[jZ],λg h=>by simp at h⟩|(k,x)::r=>by
  let⟨i1,i2⟩:=Wn f v r;rw[show jZ f v ((k,x)::r)=(if k=f then(k,v)::r else(k,x)::jZ f v r)from rfl];by_cases hk:k=f
  .rw[c_ hk];subst hk;exact⟨i9,λg h=>by simpa using h⟩
  .rw[d4 hk];refine⟨?_,λg h=>?_⟩
   .rw[Yw];exact Yf _ i1
   .rw[Yw]at h |-;rcases Yo.mp h with e|e
    .exact Yo.mpr<|.inl e
    .exact Yf _<|i2 g e
theorem P7(f:aj)(v:V):∀fs:List (aj×V),(jZ f v fs).length<=B fs+1
 |[]=>by simp[jZ]|(k,x)::r=>by
  have ih:=P7 f v r;rw[show jZ f v ((k,x)::r)=(if k=f then(k,v)::r else(k,x)::jZ f v r)from rfl];by_cases hk:k=f
  .rw[c_ hk,Yp,Yp];exact iG _ _
  .rw[d4 hk,Yp,Yp];omega
def qD.some_of{v:V}{o:Option Yh}(r:qD (O v) o):∃u,o=O u/\RelV v u:=by
 cases o with
 |none=>exact(show False from r).elim|some u=>exact⟨u,rfl,r⟩
def Zq1{v:V}{u:Yh}(r:RelV v u):IF u=true:=by
 cases v with
 |Z=>cases(show u=Value.none from r);rfl|bl b=>cases(show u=Value.bool b from r);rfl|int i=>let⟨t,e⟩:=(show∃t,u=Value.int i t from r);cases e;rfl|str x=>let⟨t,e⟩:=(show∃t,u=Value.str x t from r);cases e;rfl
 |E_ b=>let⟨t,e⟩:=(show∃t,u=Value.bytes b t from r);cases e;rfl|zh b=>let⟨t,e⟩:=(show∃t,u=Value.float b t from r);cases e;rfl|ref a=>cases(show u=Value.ref a from r);rfl|ty n=>cases(show u=Value.type n from r);rfl
section
variable {P:Y9} {w:aQ} {H H':Hp} {h h':aH} {a C dx:Yy} {fs rL:List (aj×V)}
def Wo(i6:gP P w H h)(e:H a=O (.ins C dx fs)):∃mA,Fg h a dx C mA/\(∀f,qD (fs.lookup f)<|mA f)/\T_ mA (fs.map (·.1))/\fs.length<=1000/\H dx=O (.own a):=by let⟨d,z,ne,ob,mA,n,r,q⟩:=(show d9 P w H h a (.ins C dx fs)from i6 a _ e);exact⟨mA,⟨ob,n,ne⟩,r,q,z,d⟩
end
structure zb(K:Yb)(C:Yy):Prop where
 hx1:Mw K C Ey=true
 hd:Mv K C=true
 po:Tp K C=true
 sa:fJ K (.ref C) "__setattr__" =O (O<|.builtin "object.__setattr__")
def zb.get{K:Yb}{C:Yy}(c:zb K C)(f:aj):Mw K C f=true:=c.hx1
def vh(K:Yb)(C:Yy)(f:aj):Prop:=fJ K (.ref C) f=O Yj
def vh.A3{K:Yb}{C:Yy}{f:aj}(n:vh K C f):Tq K C f=O Yj:=by unfold Tq;rw[show fJ K (.ref C) f=O Yj from n];rfl
structure Meth(K:Yb)(C:Yy)(m:aj)(f:Yy):Prop where
 ao:fJ K (.ref C) m=O (O<|.ref f)
 fn:Mz K (.ref f)=true
 kp:sZ K (.ref f)=true
section
variable {X:Cx} {b4:List (Yy×aK)} {σ:St} {H:Hp} {s:Yl} {a C dx:Yy} {fs:List (aj×V)} {f:aj} {v:V} {A:bG} {E:Yh->Yl->Prop}
def ZoS{b:Bool}(I:Inv X b4 σ H s)(e:H a=O (.ins C dx fs))(c:zb X.K C)(n:vh X.K C f)(l:fs.lookup f=O v)(h:∀u s',Inv X b4 σ H s'->RelV v u->Q u s'):aq (aA X.prog X.w) A (HN (.ref a) f b) Q E s:=by let⟨mA,l9,r,_,_,_⟩:=Wo I.i6 e;let⟨u,hu,ru⟩:=qD.some_of (v:=v) (o:=mA f) (by rw[<-l];exact r f);exact Zun I.cJ l9 (c.get f) c.hd n hu (Zq1 ru)<|h u _ (I.tok _) ru
def ZoM{y:V}{u:Yh}{Q:Unit->Yl->Prop}(I:Inv X b4 σ H s)(e:H a=O (.ins C dx fs))(c:zb X.K C)(n:vh X.K C f)(hl:B fs<1000)(ry:RelV y u)(h:∀s',Inv X b4 σ (upd H a<|.ins C dx<|jZ f y fs) s'->Q () s'):aq (aA X.prog X.w) A (BS (.ref a) f u) Q E s:=by
 let⟨mA,l9,r,wi,_,ho⟩:=Wo I.i6 e;have hz:(fs.map (·.1)).length<=bI:=by rw[Ym,uU];omega
 refine Zu7 I.cJ l9 c.sa c.po n.A3 c.hd wi hz λh' O' sb=>h _ ?_;have hd:∃o,h'.get? dx=O o:=let⟨o,_,_,e',_⟩:=O'.ns;⟨o,e'⟩;refine I.write (x:=a) (e:=dx) (by rw[e];exact True.intro) (.inr ho) (λb q hb z=>(sb.2 b hb).trans z) hd ?_;refine⟨by rwa[bH l9.ne],?_,l9.ne,O'.obj,_,O'.ns,λg=>?_,λg hg=>?_⟩
 .have:=P7 f y fs;omega
 .show qD ((jZ f y fs).lookup g) (if g=f then O u else mA g);rw[P6];by_cases q:g=f
  .rwa[c_ q,c_ q]
  .rw[d4 q,d4 q];exact r g
 .by_cases q:g=f
  .rw[q];exact(Wn f y fs).1
  .refine(Wn f y fs).2 g (wi g λz=>hg ?_);show(if g=f then O u else mA g)=Yj;rwa[d4 q]
def Inv.made(I:Inv X b4 σ H s):Inv X b4 σ (upd (upd H (c6 s)<|.own<|c6 s+1) (c6 s+1)<|.ins C (c6 s) [])
  {s with heap:=(s.heap.push wC).push<|yq C<|c6 s}:=by
 have e1:(s.heap.push wC).get? (c6 s)=O wC:=Y6 s.heap J;have e2:((s.heap.push wC).push<|yq C<|c6 s).get? (c6 s+1)=O (yq C<|c6 s):=by
  have:=Y6 (s.heap.push wC) (o:=yq C<|c6 s) J
  rwa[yQ]at this
 have e3:(s.heap.push wC).Ns (c6 s) (λ_=>Yj):=⟨wC,#[],_,e1,rfl,(λe he=>k9 he i9),λ_=>rfl⟩;have I1:=I.laid (a:=c6 s) (o:=.own<|c6 s+1) (h':=s.heap.push wC) (t':=s.toks) (λb u q=>Yn _ q) (Yu _) ⟨_,e1⟩;refine I1.laid (a:=c6 s+1) (o:=.ins C (c6 s) []) (t':=s.toks) (λb u q=>Yn _ q) (lR<|yQ _ _) ?_;have ne:c6 s≠s.heap.objs.size+1:=d8<|Es _;refine⟨by rw[bH ne,iw],g_ _,ne,e2,λ_=>Yj,(OE e3).at λo q=>Yn _ q,λ_=>True.intro,λy hy=>k9 J hy⟩
def P8{prog:Y9}{w:aQ}{env:dz}{e:Expr}{f:aj}{pos:a_}{s:Yl}(hb:o9 e f env (aO e env)=aO e env)(h:aq (aA prog w) A (aO e env) (λo s₁=>aq (aA prog w) A (HN o f true) Q E s₁) E s):aq (aA prog w) A (aO (.Attribute e f pos) env) Q E s:=Attribute_any_ h (by rw[arm_eval_Attribute,hb])
end
def Aes(K:Yb)(ta:TE)(f:aj):TE:=λσ H Q=>ta σ H λx H1=>∃a C dx fs v,x= .ref a/\H1 a=O (.ins C dx fs)/\zb K C/\vh K C f/\fs.lookup f=O v/\Q v H1
def Aet(K:Yb)(ta tv:TE)(f:aj):TS:=λD σ H=>tv σ H λy H1=>ta σ H1 λx H2=>∃a C dx fs,x= .ref a/\H2 a=O (.ins C dx fs)/\zb K C/\vh K C f/\fs.length<1000/\
 D.nx σ (upd H2 a<|.ins C dx<|jZ f y fs)
section
variable {X:Cx} {o e value:Expr} {f:aj} {pos pos' rV:a_} {ta tv:TE}
def Zxx(he:PE X e ta)(hb:o9 e f X.env (aO e X.env)=aO e X.env):PE X (.Attribute e f pos) (Aes X.K ta f):=by intro b4 s σ H Q I h;refine P8 hb<|aP (he b4 s σ H _ I h) λu s1 ak=>?_;let⟨x,H1,I1,rx,a,C,dx,fs,v,ex,ea,c,n,l,q⟩:=ak;subst ex;obtain rfl:u=Value.ref a:=rx;exact ZoS I1 ea c n l λu' s2 I2 ru=>⟨v,H1,I2,ru,q⟩
def Zww(ha:PE X o ta)(hv:PE X value tv)(hs:tG value (O<|.Attribute o f pos') pos.line X.env=pure false):PS X (.Assign [.Attribute o f pos'] value pos) (Aet X.K ta tv f):=by intro b4 s σ H D I h;refine IJ (aP (hv b4 s σ H _ I h) λu s1 ⟨y,H1,I1,ry,q⟩=>aP (ha b4 s1 σ H1 _ I1 q) λov s2 ak=>?_) hs;let⟨x,H2,I2,rx,a,C,dx,fs,ex,ea,c,n,l,q2⟩:=ak;subst ex;obtain rfl:ov=Value.ref a:=rx;exact ZoM I2 ea c n l ry λs3 I3=>⟨σ,_,I3,q2⟩
end
section
variable {X:Cx} {b4:List (Yy×aK)} {σ:St} {H:Hp} {s:Yl} {A:bG} {E:Yh->Yl->Prop} {Q:Yh->Yl->Prop} {c:Yh} {b:Bool}
inductive rF(K:Yb)(H:Hp):V->Yh->Prop where
 |Z:rF K H .Z (.type "NoneType")
 |bl (x:Bool):rF K H (.bl x) (.type "bool")
 |int (i:Int):rF K H (.int i) (.type "int")
 |str (x:aj):rF K H (.str x) (.type "str")
 |zh (x:UInt64):rF K H (.zh x) (.type "float")
 |L {a:Yy} {xs:List V} (e:H a=O (.L xs)):rF K H (.ref a) (.type "list")
 |cY {a:Yy} {o:aK} {xs:List V} (e:H a=O (.cY o (.L xs))):rF K H (.ref a) (.type "list")
 |U {a:Yy} {xs:List V} (e:H a=O (.U xs)):rF K H (.ref a) (.type "tuple")
 |dK {a:Yy} {d5:List (Key×V)} (e:H a=O (.dK d5)):rF K H (.ref a) (.type "dict")
 |dT {a:Yy} {d5:List (List Key×V)} (e:H a=O (.dT d5)):rF K H (.ref a) (.type "dict")
 | ins {a C dx:Yy} {fs:List (aj×V)} (e:H a=O (.ins C dx fs)) (cl:zb K C) (ha:fJ K (.ref C) "__class__" =O (O (.builtin "object.__class__")))
   (hn:D_ K (.builtin "object.__class__") "__get__" =O (O<|.builtin "getset_descriptor.__get__")) (yy:Tr K (.builtin "object.__class__")=O true)
   (hm:wD K C (.type "object")=O true):rF K H (.ref a) (.ref C)
def Fi{x:V}{u t:Yh}(I:Inv X b4 σ H s)(rx:RelV x u)(ty:rF X.K H x t)(e:Tw X.K t c=O b)(h:∀tk,Q (.bool b) {s with toks:=tk}):
  aq (aA X.prog X.w) A (call (.builtin "isinstance") [u,c]) Q E s:=by
 cases ty with
 |Z=>cases(show u=Value.none from rx);exact qt IC I.cJ True.intro e nofun h|bl y=>cases(show u=Value.bool y from rx);exact qt PySem.W.kitx_bool I.cJ True.intro e nofun h|int i=>let⟨t,q⟩:=(show∃t,u=Value.int i t from rx);cases q;exact qt PySem.W.kitx_int I.cJ True.intro e nofun h|str y=>let⟨t,q⟩:=(show∃t,u=Value.str y t from rx);cases q;exact qt PySem.W.kitx_str I.cJ True.intro e nofun h
 |zh y=>let⟨t,q⟩:=(show∃t,u=Value.float y t from rx);cases q;exact qt PySem.W.kitx_float I.cJ True.intro e nofun h|@L a xs ea=>
  cases(show u=Value.ref a from rx)
  let⟨_,_,n,_,h1⟩:=(show d9 X.prog X.w H s.heap a (.L xs)from I.i6 a _ ea);exact qt ID I.cJ ⟨_,h1,rfl⟩ e nofun h
 | @cY a ob xs ea=>
  cases(show u=Value.ref a from rx)
  let⟨_,_,_,n,_,h1⟩:=(show d9 X.prog X.w H s.heap a (.cY ob<|.L xs)from I.i6 a _ ea);exact qt ID I.cJ ⟨_,h1,rfl⟩ e nofun h
 | @U a xs ea=>
  cases(show u=Value.ref a from rx)
  let⟨_,_,_,p⟩:=(show d9 X.prog X.w H s.heap a (.U xs)from I.i6 a _ ea);let⟨o,h1,h2,_⟩:=p;exact qt IB I.cJ ⟨o,h1,h2.1⟩ e nofun h
 | @dK a d5 ea=>
  cases(show u=Value.ref a from rx)
  let⟨_,_,vs,_,p⟩:=(show d9 X.prog X.w H s.heap a (.dK d5)from I.i6 a _ ea);let⟨o,es,ep,h1,h2,_⟩:=p;exact qt IE I.cJ ⟨o,h1,h2.1⟩ e nofun h
 | @dT a d5 ea=>
  cases(show u=Value.ref a from rx)
  let⟨_,_,xs,_,o,es,ep,h1,h2,_⟩:=(show d9 X.prog X.w H s.heap a (.dT d5)from I.i6 a _ ea);exact qt IE I.cJ ⟨o,h1,h2.1⟩ e nofun h
 | @ins a C dx fs ea cl ha hn yy hm=>
  cases(show u=Value.ref a from rx)
  let⟨mA,l9,_⟩:=Wo I.i6 ea;let⟨od,i4,_⟩:=l9.look;exact qt (PySem.W.kitx_own (cl.get _) cl.hd ha hn yy hm) I.cJ i4 e nofun h
end
end L2
namespace L2
open PySem PySem.Spec PyProof.Rows
structure dM(k:Nat)(A:bG):Prop where
 hd:A.handled=Yj
 dp:A.depth+3*k+5<recursionLimit
 un:A.units+16*k+200<lK
 gd:A.guards=O []
variable{A:bG}
def dM.mono{j k:Nat}(r:dM k A)(h:j<=k):dM j A:=⟨r.hd,by have:=r.dp;omega,by have:=r.un;omega,r.gd⟩
def dM.deeper{k:Nat}(r:dM (k+1) A)(env:dz):dM k (A.deeper env):=⟨r.hd,by have:=r.dp;show A.depth+1+3*k+5<_;omega,by have:=r.un;show A.units+3+16*k+200<_;omega,r.gd⟩
def dM.in1{k:Nat}(r:dM (k+1) A):dM k A.in1:=⟨r.hd,by have:=r.dp;show A.depth+3*k+5<_;omega,by have:=r.un;show A.units+1+16*k+200<_;omega,r.gd⟩
variable{us:List Yh}
def Zo7{C:Yy}{kw:List (aj×Yh)}:(A.under<|.builtin "type.__call__" ⟨.ref C::us,kw⟩).depth=A.depth+1:=by first|rfl|simp[O1,Code.weight,Code.isCreation,Code.isGuard,Code.isCaller,Code.frames,VF,guardIds]
def ZoZ{C:Yy}{kw:List (aj×Yh)}:(A.under<|.builtin "type.__call__" ⟨.ref C::us,kw⟩).units=A.units+1:=by first|rfl|simp[O1,Code.cUnits,Code.frames,VF]
def dM.make{k:Nat}(r:dM (k+1) A)(C:Yy)(us:List Yh)(kw:List (aj×Yh)):dM k (A.under<|.builtin "type.__call__" ⟨.ref C::us,kw⟩):=⟨r.hd,by have:=r.dp;rw[Zo7];omega,by have:=r.un;rw[ZoZ];omega,by have:=r.gd;first|exact this|simpa[O1,Code.isGuard,guardIds]using this⟩
def dM.depth{k:Nat}(r:dM k A):A.depth<recursionLimit:=by have:=r.dp;omega
def dM.units{k:Nat}(r:dM k A):A.units+64<lK:=by have:=r.un;omega
def Wq:TA:=λ_ H Q=>Q [] H
def Py(ta:TE)(hxs:TA):TA:=λσ H Q=>ta σ H λx H1=>hxs σ H1 λxs H2=>Q (x::xs) H2
section
variable {X:Cx} {e:Expr} {es:List Expr} {te:TE} {t:TA} {pos:a_}
def zc:PA X [] Wq:=λ_ _ _ _ H Q I h=>Of ⟨[],H,I,.nil,h⟩
def qG(ha:PE X e te)(hr:PA X es t)(hs:Yv (e::es) X.env=(false,aO e X.env)::Yv es X.env:=by rfl):PA X (e::es) (Py te t):=by intro pos b4 s σ H Q I h;rw[hs];show aq _ _ (HJ<|(false,aO e X.env)::b8 pos (Yv es X.env)) _ _ s;refine VN<|aP (ha b4 s σ H _ I h) λu s1 ak=>?_;let⟨x,H1,I1,r1,q1⟩:=ak;exact aP (hr pos b4 s1 σ H1 _ I1 q1) λus s2 ⟨xs,H2,I2,r2,q2⟩=>⟨x::xs,H2,I2,.cons r1 r2,q2⟩
def Aeu(t:TA):TE:=λσ H Q=>t σ H λxs H1=>B xs<=bI/\∀p,H1 p=Yj->Q (.ref p) (upd H1 p<|.U xs)
def Aev(t:TA):TE:=λσ H Q=>t σ H λxs H1=>B xs<=bI/\∀p,H1 p=Yj->Q (.ref p) (upd H1 p<|.L xs)
def Wr{x1}(h:PA X es t):PE X (.Tuple es x1 pos) (Aeu t):=by intro b4 s σ H Q I hq;refine wpAny_Tuple_spliced (aP (h pos b4 s σ H _ I hq) λus s1 ⟨xs,H1,I1,r,z,q⟩=>⟨by rwa[<-r.length],?_⟩);have hf:H1 (c6 s1)=Yj:=I1.i6.fresh<|Yu _;refine⟨.ref<|c6 s1,upd H1 (c6 s1)<|.U xs,I1.laid (t':=s1.toks) (λb u e=>Yn _ e) (Yu _) ?_,rfl,q _ hf⟩;exact⟨z,us,r,⟨_,Y6 _ J,⟨rfl,rfl⟩,_,rfl⟩⟩
def Zx9(h:PA X es t):PE X (.List es pos) (Aev t):=by intro b4 s σ H Q I hq;refine wpAny_List_spliced (aP (h pos b4 s σ H _ I hq) λus s1 ⟨xs,H1,I1,r,z,q⟩=>⟨by rwa[<-r.length],?_⟩);have hf:H1 (c6 s1)=Yj:=I1.i6.fresh<|Yu _;refine⟨.ref<|c6 s1,upd H1 (c6 s1)<|.L xs,I1.laid (t':=s1.toks) (λb u e=>Yn _ e) (Yu _) ?_,rfl,q _ hf⟩;exact⟨z,us,0,r,Y6 _ J⟩
end
abbrev Sp:=List V->Hp->VK->XK->Prop
abbrev qH:=List dz->Hp->Yl->XK->Yh->Yl->Prop
structure vm(P:Y9)(w:aQ)(K:Yb)(mg:aj->Option Yh)(base:aH)(A:bG)(outer:List dz)(s:Yl)(H:Hp):Prop where
 frames:A.frames=O outer
 mod:Mod K mg base
 bs:∀b o,base.get? b=O o->s.heap.get? b=O o/\H b=Yj
 qF:base.objs.size<=c6 s
 mR:s.heap.FunFrames base outer
 tZ:∀b∈sR outer,H b=Yj
 i6:gP P w H s.heap
 bare:u9 s.gens
def CE(outer:List dz)(P:Y9)(w:aQ)(H:Hp)(s:Yl)(Q:VK)(u:Yh)(s':Yl):Prop:=∃v H',s'.os=s.os/\u9 s'.gens/\Un (sR outer) [] H H' s.heap s'.heap/\gP P w H' s'.heap/\RelV v u/\Q v H'
def ZpA(CX:qH)(outer:List dz)(P:Y9)(w:aQ)(H:Hp)(s:Yl)(Q:VK)(E:XK)(r:ph)(s':Yl):Prop:=
 match r with
 | .ok (.ret u)=>CE outer P w H s Q u s'|.ok _=>False|.error e=>CX outer H s E e s'
structure h_(P:Y9)(w:aQ)(K:Yb)(mg:aj->Option Yh)(base:aH)(CX:qH)(k:Nat)(f:Yy)(fd:lJ)(ps:List aj)(sp:Sp):Prop where
 len:∀vs H Q E,sp vs H Q E->B vs=ps.length
 run:∀(A:bG) (outer:List dz) (s:Yl) (H:Hp) (args:Args) (us:List Yh) (vs:List V) (Q:VK) (E:XK),dM k A->vm P w K mg base A outer s H->Ek s fd args (ps.zip us)->Vals vs us->sp vs H Q E ->
  kO (aA P w) A (.call (.ref f) args) (ZpA CX outer P w H s Q E) s
variable{mg:aj->Option Yh}{ps:List aj}{K:Yb}{P:Y9}{base:aH}
theorem h_.mono{w:aQ}{CX:qH}{j k:Nat}{f:Yy}{fd:lJ}{sp:Sp}(F:h_ P w K mg base CX j f fd ps sp)(h:j<=k):
  h_ P w K mg base CX k f fd ps sp:=⟨F.len,λA outer s H args us vs Q E hr=>F.run A outer s H args us vs Q E<|hr.mono h⟩
variable{s:Yl}{outer:List dz}{H:Hp}
def vm.make{w:aQ}(e:vm P w K mg base A outer s H)(C:Yy)(us:List Yh)(kw:List (aj×Yh)):
  vm P w K mg base (A.under<|.builtin "type.__call__" ⟨.ref C::us,kw⟩) outer s H:=⟨by first|exact e.frames|(simpa[O1,Code.envs,VF,pushEnvs]using e.frames),e.mod,e.bs,e.qF,e.mR,e.tZ,e.i6,e.bare⟩
def vm.in1{w:aQ}(e:vm P w K mg base A outer s H):
  vm P w K mg base A.in1 outer s H:=⟨e.frames,e.mod,e.bs,e.qF,e.mR,e.tZ,e.i6,e.bare⟩
section
variable {X:Cx} {b4:List (Yy×aK)} {σ:St} {H:Hp} {s s':Yl}
def Inv.env0(I:Inv X b4 σ H s):vm X.prog X.w X.K X.mg X.base X.A X.stack s H:=⟨I.ok.frames,I.ok.mod,I.bs,Yi I.ok.qF I.sz,I.stack,I.Sw,I.i6,I.bare⟩
def Inv.after{Q:VK}{u:Yh}(I:Inv X b4 σ H s)(h:CE X.stack X.prog X.w H s Q u s'):EP X b4 σ Q u s':=by let⟨v,H',os,bare,un,i6,r,q⟩:=h;let⟨hh,g,d,t,os'⟩:=s';obtain rfl:os'=s.os:=os;exact⟨v,H',I.call (h':=hh) (g':=g) (d':=d) (t':=t) (ch:=[]) un i6 bare λb z=>k9 z i9,r,q⟩
end
def Zy3(sp:Sp)(n_:List V)(E:XK)(t:TA):TE:=λσ H Q=>t σ H λvs H1=>sp (vs++n_) H1 Q E
def ZzM(C:Yy)(sp:Sp)(n_:List V)(E:XK)(t:TA):TE:=λσ H Q=>t σ H λvs H1=>∀x dx,H1 x=Yj->H1 dx=Yj->dx≠x ->
 sp (.ref x::(vs++n_)) (upd (upd H1 dx<|.own x) x<|.ins C dx []) (λv H2=>v= .Z/\Q (.ref x) H2) E
def Binds(K:Yb)(fd:lJ)(ps:List aj)(ds:List Yh):Prop:=∀(s:Yl) (us:List Yh),K.In s.heap->(us++ds).length=B ps->Ek s fd ⟨us,[]⟩ (ps.zip<|us++ds)
def Binds.all{fd:lJ}(h:∀us:List Yh,B us=B ps->bindArgs fd ⟨us,[]⟩=pure (ps.zip us)):Binds K fd ps []:=λs us _ hl=>by rw[iD]at hl |-;exact .of_eq (h us hl)
def Jc(CX:qH)(X:Cx)(E:XK):Prop:=∀(b4:List (Yy×aK)) (σ:St) (H:Hp) (s:Yl) (e:Yh) (s':Yl),Inv X b4 σ H s->CX X.stack H s E e s'->X.xe e s'
variable{vs:List V}
section
variable {X:Cx} {CX:qH} {k:Nat} {f C:Yy} {fd:lJ} {ps:List aj} {sp:Sp} {n_:List V} {ds:List Yh} {E:XK} {x m:aj} {p pos apos:a_} {e o:Expr} {es:List Expr} {ta:TE} {t:TA}
theorem Zys{b4:List (Yy×aK)}{σ:St}{Q:VK}(F:h_ X.prog X.w X.K X.mg X.base CX k f fd ps sp)(hr:dM k X.A)(hb:Binds X.K fd ps ds)(hd:Vals n_ ds)(hx:Jc CX X E)(I:Inv X b4 σ H s)(r:Vals vs us)(h:sp (vs++n_) H Q E):aq (aA X.prog X.w) X.A (call (.ref f) us) (EP X b4 σ Q) X.xe s:=by
 have r2:Vals (vs++n_) (us++ds):=r.append hd;have hl:(us++ds).length=B ps:=by rw[<-r2.length];exact F.len _ _ _ _ h
 refine q9<|tE (F.run X.A X.stack s H ⟨us,[]⟩ (us++ds) (vs++n_) Q E hr I.env0 (hb s us I.cJ hl) r2 h) λr s' hq=>?_;cases r with
 |error e=>exact hx b4 σ H s e s' I hq|ok fl=>
  cases fl with
  |ret u=>exact I.after hq|next=>exact fZ hq|brk=>exact fZ hq|cont=>exact fZ hq
def ZuA(F:h_ X.prog X.w X.K X.mg X.base CX k f fd ps sp)(hr:dM k X.A)(hg:Gl X x)(hm:X.mg x=O (.ref f))(hk:sZ X.K (.ref f)=true)(hb:Binds X.K fd ps ds)(hd:Vals n_ ds)(hx:Jc CX X E)(ha:PA X (e::es) t)(sd:(x==("__debug__":aj))=false:=by decide)(he:Yv (e::es) X.env=(false,aO e X.env)::Yv es X.env:=by rfl)(qv:(b8 pos<|Yv es X.env).any (·.1)=false:=by rfl):
  PE X (.Call (.Name x p) (e::es) [] pos) (Zy3 sp n_ E t):=by
 intro b4 s σ H Q I h;refine Am<|Bl I hg hm ?_ sd;refine Tj (h₀:=X.base) I.ok.mod.Bj hk (aP (ha pos b4 s σ H _ I h) λus s1 ⟨vs,H1,I1,r,q⟩=>⟨I1.cJ,?_⟩) he qv;exact Zys F hr hb hd hx I1 r q
structure Mk(K:Yb)(C f:Yy):Prop where
 makes:Mx K C=true
 init:fJ K (.ref C) "__init__" =O (O<|.ref f)
 fn:Mz K (.ref f)=true
 kp:sZ K (.ref C)=true
theorem Zrr{b4:List (Yy×aK)}{σ:St}{Q:VK}(M:Mk X.K C f)(F:h_ X.prog X.w X.K X.mg X.base CX k f fd ps sp)(hr:dM (k+1) X.A)(hb:Binds X.K fd ps ds)(hd:Vals n_ ds)(hx:Jc CX X E)(I:Inv X b4 σ H s)(r:Vals vs us)(h:∀x dx,H x=Yj->H dx=Yj->dx≠x->sp (.ref x::(vs++n_)) (upd (upd H dx<|.own x) x<|.ins C dx []) (λv H2=>v= .Z/\Q (.ref x) H2) E):
  aq (aA X.prog X.w) X.A (call (.ref C) us) (EP X b4 σ Q) X.xe s:=by
 have hq:=h (c6 s+1) (c6 s) (I.i6.fresh<|tU _) (I.i6.fresh<|Yu _)<|d8<|Es _;have I2:=Inv.made (C:=C) I;have r2:Vals (V.ref (c6 s+1)::(vs++n_)) (Value.ref (c6 s+1)::(us++ds)):=.cons J<|r.append hd;have hl:(Value.ref (c6 s+1)::us++ds).length=B ps:=by have e:=r2.length;rw[F.len _ _ _ _ hq]at e;exact e.symm
 refine q9 (Zty (f:=f) I.cJ M.makes M.init (beq_iff_eq.mp M.fn) (tE (F.run _ X.stack _ _ ⟨Value.ref (c6 s+1)::us,[]⟩ (Value.ref (c6 s+1)::(us++ds)) _ _ E (hr.make C us [])
  (I2.env0.make C us []) (hb _ (Value.ref (c6 s+1)::us) I2.cJ hl) r2 hq) λr s' ub=>?_))
 cases r with
 |error e=>exact hx b4 σ _ _ e s' I2 ub|ok fl=>
  cases fl with
  |ret u=>let⟨v,H',I3,rv,ev,q3⟩:=I2.after ub;subst ev;exact⟨rv,⟨V.ref<|c6 s+1,H',I3,rfl,q3⟩⟩|next=>exact fZ ub|brk=>exact fZ ub
  |cont=>exact fZ ub
def ZuS(M:Mk X.K C f)(F:h_ X.prog X.w X.K X.mg X.base CX k f fd ps sp)(hr:dM (k+1) X.A)(hg:Gl X x)(hm:X.mg x=O (.ref C))(hb:Binds X.K fd ps ds)(hd:Vals n_ ds)(hx:Jc CX X E)(ha:PA X (e::es) t)(sd:(x==("__debug__":aj))=false:=by decide)(he:Yv (e::es) X.env=(false,aO e X.env)::Yv es X.env:=by rfl)(qv:(b8 pos<|Yv es X.env).any (·.1)=false:=by rfl):
  PE X (.Call (.Name x p) (e::es) [] pos) (ZzM C sp n_ E t):=by
 intro b4 s σ H Q I h;refine Am<|Bl I hg hm ?_ sd;refine Tj (h₀:=X.base) I.ok.mod.Bj M.kp (aP (ha pos b4 s σ H _ I h) λus s1 ⟨vs,H1,I1,r,q⟩=>⟨I1.cJ,?_⟩) he qv;exact Zrr M F hr hb hd hx I1 r q
end
def PK(X:Cx)(sT:List Keyword)(t:TA):Prop:=∀(pos:a_) (b4:List (Yy×aK)) (s:Yl) (σ:St) (H:Hp) (Q:List V->Hp->Prop),Inv X b4 σ H s->t σ H Q->aq (aA X.prog X.w) X.A (Np<|(jN pos<|jL sT X.env).map (·.2)) (AP X b4 σ Q) X.xe s
section
variable {X:Cx} {CX:qH} {k:Nat} {f C:Yy} {fd:lJ} {ps ks:List aj} {sp:Sp} {E:XK} {x m:aj} {p pos apos kpos:a_} {e o:Expr} {es:List Expr} {sT:List Keyword} {te ta:TE} {t tk:TA} {nm:Option aj}
def P9:PK X [] Wq:=λ_ _ _ _ H Q I h=>wpAny_evalAll_nil ⟨[],H,I,.nil,h⟩
def Qb(ha:PE X e te)(hr:PK X sT t):PK X (⟨nm,e,kpos⟩::sT) (Py te t):=by intro pos b4 s σ H Q I h;show aq _ _ (Np<|(do let v ←aO e X.env;Ej pos;pure v)::(jN pos<|jL sT X.env).map (·.2)) _ _ s;refine wpAny_evalAll_cons<|Yc<|aP (ha b4 s σ H _ I h) λu s1 ⟨x,H1,I1,r1,q1⟩=>Yc<|tD<|Yr ?_;exact aP (hr pos b4 s1 σ H1 _ I1 q1) λus s2 ⟨xs,H2,I2,r2,q2⟩=>⟨x::xs,H2,I2,.cons r1 r2,q2⟩
variable {g:List Yh->List Yh->List Yh} {Znh:List V->List V->List V}
end
structure dN(N P:List aj)(sc:Scope):Prop where
 kind:sc.kind= .function
 co:sc.isCoroutine=false
 gen:sc.isGenerator=false
 nd:N.Nodup
 pre:N.take (B P)=P
 par:∀x∈P,sc.names.lookup x=O .local\/sc.names.lookup x=O .cell
 AdJ:∀y∈sc.names,y.2≠ .free
theorem Qr{pG:aj->Option NameKind}{x:aj}:∀{binds:List (aj×Yh)} {m:aj->Option Yh},(∀v,(x,v)∉binds)->yF pG binds m x=m x
 |[],_,_=>rfl|(n,v)::r,m,h=>by
  unfold yF;rw[Qr λw hw=>h w<|Yf _ hw];split
  .have:x≠n:=by rintro rfl;exact h v Ye
   simp[this]
  .rfl
theorem QA{pG:aj->Option NameKind}{x:aj}:∀{binds:List (aj×Yh)} {m:aj->Option Yh},(∀v,(x,v)∉binds)->yG pG binds m x=m x
 |[],_,_=>rfl|(n,v)::r,m,h=>by
  unfold yG;rw[QA λw hw=>h w<|Yf _ hw];split
  .rfl
  .have:x≠n:=by rintro rfl;exact h v Ye
   simp[this]
def QE{pG:aj->Option NameKind}{x:aj}{v:Yh}:∀{P:List aj} {vs:List Yh} {i:Nat} {m:aj->Option Yh},P.Nodup->P[i]?=O x->vs[i]?=O v->pG x=O .local ->
  yF pG (P.zip vs) m x=O v
 |[],_,_,_,_,h,_,_=>by simp at h|_::_,[],_,_,_,_,h,_=>by simp at h|p::P,w::vs,0,m,nd,h1,h2,hk=>by simp at h1 h2;subst h1;subst h2;show yF pG ((p,w)::P.zip vs) m p=_;unfold yF;rw[Qr λv hv=>(lO.mp nd).1 (UW hv).1,c_ hk];simp|p::P,w::vs,i+1,m,nd,h1,h2,hk=>by show yF pG ((p,w)::P.zip vs) m x=_;unfold yF;exact QE (i:=i) (lO.mp nd).2 (by simpa using h1) (by simpa using h2) hk
def QI{pG:aj->Option NameKind}{x:aj}{v:Yh}:∀{P:List aj} {vs:List Yh} {i:Nat} {m:aj->Option Yh},P.Nodup->P[i]?=O x->vs[i]?=O v->pG x≠O .local ->
  yG pG (P.zip vs) m x=O v
 |[],_,_,_,_,h,_,_=>by simp at h|_::_,[],_,_,_,_,h,_=>by simp at h|p::P,w::vs,0,m,nd,h1,h2,hk=>by simp at h1 h2;subst h1;subst h2;show yG pG ((p,w)::P.zip vs) m p=_;unfold yG;rw[QA λv hv=>(lO.mp nd).1 (UW hv).1,d4 hk];simp|p::P,w::vs,i+1,m,nd,h1,h2,hk=>by show yG pG ((p,w)::P.zip vs) m x=_;unfold yG;exact QI (i:=i) (lO.mp nd).2 (by simpa using h1) (by simpa using h2) hk
def start(N:List aj)(vs:List V):St:=vs.map O++Yq (B N-B vs) Yj
def qI(CX:qH)(P:Y9)(w:aQ)(K:Yb)(mg:aj->Option Yh)(base:aH)(N:List aj)(qual:aj)(scope:Scope)(f:Yy)(cd:Yh)(A:bG)(outer:List dz)(s:Yl)(H:Hp)(E:XK):Cx where
 prog:=P
 w:=w
 K:=K
 mg:=mg
 base:=base
 A:=A.deeper<|nZ qual scope (c6 s) f cd
 N:=N
 s₀:=s
 H₀:=H
 env:=nZ qual scope (c6 s) f cd
 outer:=outer
 stack:=nZ qual scope (c6 s) f cd::outer
 ex:=[]
 calm:=true
 fn:=λ_=>true
 pn:=[]
 xe:=λe s'=>aq (aA P w) (A.deeper<|nZ qual scope (c6 s) f cd) (Nq (nZ qual scope (c6 s) f cd) e) (λ_ zI=>CX outer H s E e zI) (λe' zI=>CX outer H s E e' zI) s'
def QN{sc:Scope}{n:Nat}{x:aj}(h:sc.names.lookup x=O .cell):∃c,(Ul n sc.names []).lookup x=O c:=by have q:=Iq sc.names n []<|.inl h;exact Ho.mp q
def ZqF{CX:qH}{w:aQ}{N:List aj}{qual:aj}{scope:Scope}{f:Yy}{cd:Yh}{s1:Yl}{E:XK}(S:dN N ps scope)(hd:A.handled=Yj)(e0:vm P w K mg base A outer s H)(hl:B vs=B ps)(r:Vals vs us)(x:InCallC s (c6 s) (yF (nZ qual scope (c6 s) f cd).kindOf (ps.zip us) λ_=>Yj) (Ul (c6 s+1) scope.names []) (yG (nZ qual scope (c6 s) f cd).kindOf (ps.zip us) λ_=>Yj) s1):
  Inv (qI CX P w K mg base N qual scope f cd A outer s H E) [] (start N vs) H s1:=by
 have qv:B ps<=B N:=by have:=congrArg yN S.pre;rw[lM]at this;omega
 let⟨h1,tk,rfl,hk⟩:=x.done;have Jd:∀b:Yy,b∉(qI CX P w K mg base N qual scope f cd A outer s H E).ex:=λb z=>k9 (show b∈([]:List Yy)from z) i9;refine⟨⟨e0.mod,S.kind,rfl,rfl,Yu _,λy z c h1 h2=>?_,λy hy=>?_,λy c _ h=>?_,λ_=>hd,Around.frames_deeper e0.frames,.inr ⟨rfl,rfl⟩,λb z=>k9 z<|Jd b,e0.bs,e0.qF,λb _ _=>Jd b,λb z=>k9 z<|Jd b,e0.mR,e0.tZ⟩,
  rfl,e0.bare,Un.kept hk,⟨_,x.toInCall.ns,λi y v h1 h2 h3=>?_⟩,λy c h=>⟨_,x.cell y c h⟩,e0.i6.fresh<|Yu _,λy c h=>?_,λp hp=>k9 (show p∈([]:List (Yy×aK))from hp) i9,e0.i6.kept hk,?_⟩
 .exact name_of_addr x.apart (wH h1)<|wH h2
 .have hy:scope.names.lookup y=O .cell\/scope.names.lookup y=O .free:=hy;rcases hy with hy|hy
  .exact QN hy
  .exact k9 J<|S.AdJ _<|wH hy
 .exact Ih<|x.above y c<|wH h
 .have hi:i<B vs:=by
   unfold start at h2;by_cases hi:i<vs.length
   .exact hi
   .rw[uW<|by simpa using hi]at h2;rw[Nu]at h2;split at h2<;>cases h2
  have ha:vs[i]?=O v:=by
   unfold start at h2;rw[Yk (by simpa using hi),jg]at h2;cases e:vs[i]? with
   |none=>rw[e]at h2;cases h2|some a=>rw[e]at h2;cases h2;rfl
  let⟨u,hu,rv⟩:=r.get ha;have hp:ps[i]?=O y:=by rwa[<-S.pre,yJ b5]
  have QO:ps.Nodup:=by rw[<-S.pre];exact S.nd.sublist<|Uz _ _
  refine⟨u,rv,?_⟩;rcases S.par y (Ay hp)with k|k
  .exact .inl ⟨k,QE QO hp hu k⟩
  .let⟨c,e⟩:=QN (n:=c6 s+1) k;refine .inr ⟨.inl k,c,e,?_⟩;have q:=x.cell y c e;rwa[QI QO hp hu (by show scope.names.lookup y≠_;rw[k];decide)]at q
 .exact e0.i6.fresh<|Ih<|x.above y c<|wH h
 .unfold start;show _=B N;rw[Yd,Ym,pq];omega
def Ws{CX:qH}{w:aQ}{k:Nat}{f:Yy}{name qual:aj}{params:Arguments}{body:List Ydv}{scope:Scope}{dV kV doc pm j0 ct oc:Yh}{an od:Option Yy}{sM:Array (Option Yh)}{N:List aj}{sp:Sp}(lk:K.lookup f=O ⟨oc,od,.func<|q8 name qual params body scope dV kV doc pm an j0 ct,sM⟩)(tI:Ea K j0 qual=true)(S:dN N ps scope)(len:∀vs H Q E,sp vs H Q E->B vs=B ps)(vT:∀(A:bG) (outer:List dz) (s:Yl) (H:Hp) (vs:List V) (Q:VK) (E:XK),dM k (A.deeper<|nZ qual scope (c6 s) f j0)->sp vs H Q E ->
   ∃t,lz (qI CX P w K mg base N qual scope f j0 A outer s H E) body t/\t {nx:=λ_ H'=>Q .Z H',rt:=Q} (start N vs) H):
  h_ P w K mg base CX (k+1) f (q8 name qual params body scope dV kV doc pm an j0 ct) ps sp:=by
 refine⟨len,λA outer s H args us vs Q E hr e0 hb r uu=>?_⟩;have hl:=len _ _ _ _ uu;have KX:K.In s.heap:=e0.mod.Bj.keeps λb o e=>(e0.bs b o e).1;have lim:s.heap.NoLimit:=e0.mod.nolimit.keeps λb o e=>(e0.bs b o e).1;have ue:∀y∈ps.zip us,scope.names.lookup y.1=O .local\/(scope.names.lookup y.1=O .cell/\((Ul (c6 s+1) scope.names []).lookup y.1).isSome=true):=λ⟨n,v⟩ hy=>by
  rcases S.par n (UW hy).1 with q|q
  .exact .inl q
  .exact .inr ⟨q,Iq _ _ _<|.inl q⟩
 refine codeAny_call_function hr.depth (KX _ _ lk) J S.co S.gen J (PySem.W.codeRec_of KX tI)<|hb _ _ _ _ ?_;refine wpAny_newFunctionEnv_cells S.kind ue λenv he s1 x=>?_;subst he;refine⟨lim.keeps x.toInCall.keep,codeAny_func ?_⟩;let⟨t,ht,hq⟩:=vT A outer s H vs Q E (hr.deeper _) uu;have I:Inv (qI CX P w K mg base N qual scope f j0 A outer s H E) [] (start N vs) H s1:=ZqF S hr.hd e0 hl r x;refine gD (ht [] s1 (start N vs) H _ I hq) (λfl s' hs=>?_) λe s' hs=>hs;have fin:∀{σ':St} {H':Hp} {v:V} {u:Yh},Inv (qI CX P w K mg base N qual scope f j0 A outer s H E) [] σ' H' s'->RelV v u->Q v H'->CE outer P w H s Q u s':=λ{σ' H' v u} i4 rv q=>⟨v,H',i4.os,i4.bare,i4.base,i4.i6,rv,q⟩;cases fl with
 |ret u=>let⟨v,σ',H',i4,rv,q⟩:=hs;exact fin i4 rv q|next=>let⟨σ',H',i4,q⟩:=hs;exact fin (v:=V.Z) (u:=Value.none) i4 J q|brk=>let⟨_,_,_,q⟩:=hs;exact fZ q|cont=>let⟨_,_,_,q⟩:=hs;exact fZ q
end L2
namespace L2
open PySem PySem.Spec PyProof.Rows
section
variable {X:Cx} {x:aj} {p pos:a_} {e:Expr} {es:List Expr} {t:TA} {id T:String} {r:List V->Hp->VK->Prop}
def Je(r:List V->Hp->VK->Prop)(t:TA):TE:=λσ H Q=>t σ H λvs H1=>r vs H1 Q
def Jf(hc:dB X (.builtin id) r)(hg:Gl X x)(hm:X.mg x=Yj)(hv:jY x=O (.builtin id))(ha:PA X (e::es) t)(hn:x≠ "__name__":=by decide)(sd:(x==("__debug__":aj))=false:=by decide)(he:Yv (e::es) X.env=(false,aO e X.env)::Yv es X.env:=by rfl)(qv:(b8 pos<|Yv es X.env).any (·.1)=false:=by rfl):PE X (.Call (.Name x p) (e::es) [] pos) (Je r t):=by intro b4 s σ H Q I h;refine Am<|Bm I hg hm hv ?_ hn sd;exact Mn (aP (ha pos b4 s σ H _ I h) λus s1 ⟨vs,H1,I1,r1,q1⟩=>hc b4 s1 σ H1 vs us Q I1 r1 q1) he qv
def QP(hc:dB X (.type T) r)(hg:Gl X x)(hm:X.mg x=Yj)(hv:jY x=O (.type T))(ha:PA X (e::es) t)(hn:x≠ "__name__":=by decide)(sd:(x==("__debug__":aj))=false:=by decide)(he:Yv (e::es) X.env=(false,aO e X.env)::Yv es X.env:=by rfl)(qv:(b8 pos<|Yv es X.env).any (·.1)=false:=by rfl):PE X (.Call (.Name x p) (e::es) [] pos) (Je r t):=by intro b4 s σ H Q I h;refine Am<|Bm I hg hm hv ?_ hn sd;exact Vl (aP (ha pos b4 s σ H _ I h) λus s1 ⟨vs,H1,I1,r1,q1⟩=>hc b4 s1 σ H1 vs us Q I1 r1 q1) he qv
end
end L2
namespace HT
open PySem PyProof.Rows
section
variable {prog:Y9} {w:aQ} {A:bG} {E:Yh->Yl->Prop} {s:Yl}
def Adx{t b:Yy}{vs ws:List Yh}{Q:Yh->Yl->Prop}(ht:IsTup s.heap t vs.toArray)(hb:IsTup s.heap b ws.toArray)(hv:vs≠[])(h1:ws=[]->Q (.ref t) s)(h2:ws≠[]->Q (.ref<|c6 s) {s with heap:=s.heap.push {cls:=.type "tuple",data:=.seq (vs++ws).toArray}})(sh:B vs+B ws<=bI):aq (aA prog w) A (jM .Add (.ref t)<|.ref b) Q E s:=by
 let⟨⟨cls,dd,data,sl⟩,ho,hc,n,hd⟩:=id ht;let⟨⟨DC,B1,data2,B3⟩,zS,uA,n2,hd2⟩:=id hb;simp only at hc hd uA hd2;subst hc hd uA hd2;have e:vs.toArray++ws.toArray=(vs++ws).toArray:=by simp
 by_cases hw:ws=[]
 .exact Ua ⟨_,ho,rfl⟩ ⟨_,zS,rfl⟩ TX T9 Vt Vr (Vq _ _)
   (tuple_addW1 t b vs.toArray ws.toArray n n2 dd B1 sl B3 (by simpa using hv)<|by simp[hw]) ⟨ho,zS,h1 hw⟩
 .refine Ua ⟨_,ho,rfl⟩ ⟨_,zS,rfl⟩ TX T9 Vt Vr (Vq _ _)
   (tuple_addW2 t b vs.toArray ws.toArray n n2 dd B1 sl B3 (by simpa using hv) (by simpa using hw)<|by rwa[Yt,Yt]) ⟨ho,zS,?_⟩
  rw[e];exact h2 hw
def aR(n d:Nat):Option Int->Nat
 |none=>d|some v=>if v<0 then(v+(n:Int)).toNat else gw v.toNat n
def Wt(n d:Nat):aR n d Yj=d:=rfl
def Bp(n d k:Nat):aR n d (O (k:Int))=gw k n:=by show(if(k:Int)<0 then((k:Int)+(n:Int)).toNat else gw (k:Int).toNat n)=gw k n;rw[d4<|Int.not_lt.2<|Oj _,u6]
def Pz(n d:Nat)(hd:d<=n)(o:Option Int):aR n d o<=n:=by
 cases o with
 |none=>exact hd|some v=>
  show(if v<0 then(v+(n:Int)).toNat else gw v.toNat n)<=n;by_cases hv:v<0
  .rw[c_ hv];omega
  .rw[d4 hv];exact LN _ _
def QU(v:Int)(n d:Nat):(if v<0 then max (v+(n:Int)) 0 else gw v (n:Int))=((aR n d (O v):Nat):Int):=by
 show(if v<0 then max (v+(n:Int)) 0 else gw v (n:Int))=(((if v<0 then(v+(n:Int)).toNat else gw v.toNat n):Nat):Int);by_cases hv:v<0
 .simp only[c_ hv];exact ON _
 .simp only[d4 hv];exact OO _ _ hv
def Zol(lo hi:Option Int)(n:Nat):VB lo hi 1 (n:Int)=(((aR n 0 lo:Nat):Int),((aR n n hi:Nat):Int)):=by
 have h1:¬((1:Int)<0):=by decide
 unfold VB;simp only[h1,if_false];refine V0 ?_ ?_
 .cases lo with
  |none=>rfl|some v=>exact QU v n 0
 .cases hi with
  |none=>rfl|some v=>exact QU v n n
def ZoK(i j:Nat):Oz (i:Int) (j:Int) 1=j-i:=by
 unfold Oz;have h1:(1:Int)>0:=by decide
 simp only[h1,if_true,Int.ediv_one];split <;>omega
def QY{v:Yh}{o:Option Int}{Q:Option Int->Yl->Prop}(p:IsPart v o)(h:Q o s):aq (aA prog w) A (Builtin.Slice.slicePartIndex v) Q E s:=by
 cases p with
 |none=>exact slicePart_none h|int i t=>exact slicePart_int h
def Q1{sl:Yy}{vl vu:Yh}{lo hi:Option Int}{n:Nat}{Q:Int×Int×Nat->Yl->Prop}(hs:s.heap.IsSliceOf sl vl vu .none)(pl:IsPart vl lo)(pu:IsPart vu hi)(h:Q (((aR n 0 lo:Nat):Int),1,aR n n hi-aR n 0 lo) s):aq (aA prog w) A (NI (.ref sl)<|pure (n:Int)) Q E s:=by let⟨os,z4,B4,A4⟩:=id hs;unfold NI Builtin.Slice.sliceFields;refine Yc<|Yc<|o_ z4 A4 (x:=vl) J<|Yc<|o_ z4 A4 (x:=vu) J<|Yc<|o_ z4 A4 (x:=.none) J<|Yr ?_;refine Yc<|slicePart_none ?_;show aq _ _ (if((1:Int)==0)=true then _ else _) _ _ s;rw[d4 aaA];refine Yc<|QY pl<|Yc<|QY pu<|Yc<|Yr ?_;show aq _ _ (match VB lo hi 1 (n:Int)with|(lo,hi)=>pure (lo,(1:Int),Oz lo hi 1)) _ _ s;rw[Zol lo hi n];show aq _ _ (pure (((aR n 0 lo:Nat):Int),(1:Int),Oz ((aR n 0 lo:Nat):Int) ((aR n n hi:Nat):Int) 1)) _ _ s;rw[ZoK];exact Yr h
def ZsI(xs:Array Yh)(i k:Nat):((jO k).filterMap λ(m:Nat)=>xs[((i:Int)+(m:Int)*1).toNat]?).toArray=((xs.toList.drop i).take k).toArray:=by
 have e:(λ(m:Nat)=>xs[((i:Int)+(m:Int)*1).toNat]?)=λm=>xs[i+m]?:=by
  funext m;have:((i:Int)+(m:Int)*1).toNat=i+m:=by omega
  rw[this]
 rw[e];have:=pick_run xs i k;rw[List.filterMap_map]at this;have e2:((λx=>xs[x]?) ∘ λx=>i+x)=λm=>xs[i+m]?:=rfl;rw[e2]at this;rw[this]
def Abl{t sl:Yy}{items:Array Yh}{vl vu:Yh}{lo hi:Option Int}{Q:Yh->Yl->Prop}(ht:IsTup s.heap t items)(hs:s.heap.IsSliceOf sl vl vu .none)(pl:IsPart vl lo)(pu:IsPart vu hi)(hw:¬(aR items.size 0 lo=0/\aR items.size items.size hi=items.size))(h:Q (.ref<|c6 s) {s with heap:=s.heap.push {cls:=.type "tuple",data:=.seq ((items.toList.drop<|aR items.size 0 lo).take<|aR items.size items.size hi-aR items.size 0 lo).toArray}})(sh:items.size<=bI):aq (aA prog w) A (tH (.ref t)<|.ref sl) Q E s:=by
 have Mm:sizeOk (.seq ((items.toList.drop<|aR items.size 0 lo).take<|aR items.size items.size hi-aR items.size 0 lo).toArray):=by show((items.toList.drop<|aR items.size 0 lo).take<|aR items.size items.size hi-aR items.size 0 lo).toArray.size<=bI;rw[Yt,lM,Az,Ow];omega
 have hj:aR items.size items.size hi<=items.size:=Pz _ _ (Yu _) hi;let⟨os,z4,B4,A4⟩:=id hs;have DD:s.TypeIs (.ref sl) "slice":=⟨os,z4,B4⟩;unfold tH
 try with_reducible refine fW ?_
 first|refine Yc (Yr ?_)|skip
 refine Yc<|TV ht.typeIs aaA ?_;refine Yc (Al (name:=rC "__getitem__") ht.typeIs Oq
  (yu Oq ht.typeIs MD ?_<|MG _ _))
 show aq _ _ (NL (.ref t)>>=_) _ _ s;refine Yc<|tupleItemsOf_ ht ?_;refine Yc<|Nb DD ?_;rw[c_ aaA];refine Yc<|Q1 hs pl pu ?_;have DE:¬((((aR items.size 0 lo:Nat):Int)==0&&(1:Int)==1&&(aR items.size items.size hi-aR items.size 0 lo)==items.size)=true):=by intro q;rw[gO,gO]at q;have q1:((aR items.size 0 lo:Nat):Int)=0:=eq_of_beq q.1.1;have q2:aR items.size items.size hi-aR items.size 0 lo=items.size:=eq_of_beq q.2;exact hw ⟨b5,b5⟩
 show aq _ _ (if(((aR items.size 0 lo:Nat):Int)==0&&(1:Int)==1&&(aR items.size items.size hi-aR items.size 0 lo)==items.size)=true then _ else _) _ _ s;rw[d4 DE,ZsI]
 first
  |exact Yc (m:=O2 _) (uT (Yr ⟨_,rfl,Yr h⟩) Mm)
  |exact Yc (m:=O2 _) (uT (Yc (Yr (Yr ⟨_,rfl,Yr h⟩))) Mm)
  |exact Yc (Yc (m:=O2 _) (uT (Yr (Yr ⟨_,rfl,Yr h⟩)) Mm))
  |exact Yc (Yc (m:=O2 _) (uT (Yr ⟨_,rfl,Yr h⟩) Mm))
end
end HT
namespace L2
open PySem PySem.Spec PyProof.Rows
abbrev TO:=St->Hp->(Option Int->Hp->Prop)->Prop
def PO(X:Cx)(e:Option Expr)(t:TO):Prop:=
 ∀(b4:List (Yy×aK)) (s:Yl) (σ:St) (H:Hp) (Q:Option Int->Hp->Prop),Inv X b4 σ H s->t σ H Q ->
  aq (aA X.prog X.w) X.A (evalPart e X.env) (λu s'=>∃o H',Inv X b4 σ H' s'/\IsPart u o/\Q o H') X.xe s
def Zvu:TO:=λ_ H Q=>Q Yj H
def Zy5(t:TE):TO:=λσ H Q=>t σ H λx H1=>∃i,x= .int i/\Q (O i) H1
section
variable {X:Cx} {e:Expr} {te:TE} {lo hi:Option Expr} {tl th:TO} {pos p2:a_}
def ZuI:PO X Yj Zvu:=by intro b4 s σ H Q I h;rw[evalPart_none];exact Yr ⟨Yj,H,I,.none,h⟩
def Zu4(h:PE X e te):PO X (O e) (Zy5 te):=by intro b4 s σ H Q I hw;rw[evalPart_some];refine aP (h b4 s σ H _ I hw) λu s1 ak=>?_;let⟨x,H1,I1,r1,q1⟩:=ak;let⟨i,rfl,q⟩:=q1;let⟨t,rfl⟩:=r1;exact⟨O i,H1,I1,.int i t,q⟩
def lU(X:Cx)(r:V->Option Int->Option Int->Hp->VK->Prop):Prop:=
 ∀(b4:List (Yy×aK)) (s:Yl) (σ:St) (H:Hp) (x:V) (v vl vu:Yh) (lo hi:Option Int) (sl:Yy) (Q:VK),Inv X b4 σ H s->RelV x v->s.heap.IsSliceOf sl vl vu .none->IsPart vl lo->IsPart vu hi->r x lo hi H Q ->
  ∃T id,Uh (.type T) "__getitem__" =pure (O<|.builtin id)/\s.TypeIs v T/\aq (aA X.prog X.w) X.A (tH v<|.ref sl) (EP X b4 σ Q) X.xe s
def lU.or{r r':V->Option Int->Option Int->Hp->VK->Prop}(h:lU X r)(h':lU X r'):lU X (λx lo hi H Q=>r x lo hi H Q\/r' x lo hi H Q):=by
 intro b4 s σ H x v vl vu lo hi sl Q I rx hs pl pu q;rcases q with q|q
 .exact h b4 s σ H x v vl vu lo hi sl Q I rx hs pl pu q
 .exact h' b4 s σ H x v vl vu lo hi sl Q I rx hs pl pu q
def tSl(r:V->Option Int->Option Int->Hp->VK->Prop)(te:TE)(tl th:TO):TE:=λσ H Q=>te σ H λx H1=>tl σ H1 λl H2=>th σ H2 λu H3=>r x l u H3 Q
def Zsq{r:V->Option Int->Option Int->Hp->VK->Prop}(hr:lU X r)(he:PE X e te)(hl:PO X lo tl)(hu:PO X hi th):PE X (.Subscript e (.Slice lo hi Yj p2) pos) (tSl r te tl th):=by intro b4 s σ H Q I h;refine Vn<|aP (he b4 s σ H _ I h) λv s1 ak=>?_;let⟨x,H1,I1,r1,q1⟩:=ak;refine wpAny_Slice<|aP (hl b4 s1 σ H1 _ I1 q1) λvl s2 ⟨l,H2,I2,pl,q2⟩=>aP (hu b4 s2 σ H2 _ I2 q2) λvu s3 ak=>?_;let⟨u,H3,I3,pu,q3⟩:=ak;rw[evalPart_none];refine Yr ?_;have I4:Inv X b4 σ H3 {s3 with heap:=s3.heap.push {cls:=.type "slice",data:=.fields #[vl,vu,.none]}}:=I3.kept (t':=s3.toks) λb ob q=>Yn _ q;let⟨T,id,hT,ht,hg⟩:=hr b4 {s3 with heap:=s3.heap.push {cls:=.type "slice",data:=.fields #[vl,vu,.none]}} σ H3 x v vl vu l u (c6 s3) Q I4 r1 (Heap.IsSliceOf.new ..) pl pu q3;show aq (aA X.prog X.w) X.A (Vm e (.Slice lo hi Yj p2) v<|.ref<|c6 s3) (EP X b4 σ Q) X.xe {s3 with heap:=s3.heap.push {cls:=.type "slice",data:=.fields #[vl,vu,.none]}};exact tail_any (ops:=[.ref<|c6 s3,v]) ht hT hg (by with_unfolding_all rfl)
def zf(xs:List V)(lo hi:Option Int):List V:=(xs.drop<|HT.aR (B xs) 0 lo).take<|HT.aR (B xs) (B xs) hi-HT.aR (B xs) 0 lo
def Q2(xs:List V)(lo hi:Option Int):(zf xs lo hi).length<=B xs:=by unfold zf;rw[lM,Az];exact Yi (LN _ _)<|U_ _ _
def Aew(K:Yb):V->Option Int->Option Int->Hp->VK->Prop:=λx lo hi H Q=>∃a xs,x= .ref a/\dJ K H a xs/\
 ¬(HT.aR (B xs) 0 lo=0/\HT.aR (B xs) (B xs) hi=B xs)/\∀p,H p=Yj->Q (.ref p) (upd H p<|.U<|zf xs lo hi)
def Zw0:lU X (Aew X.K):=by
 intro b4 s σ H x v vl vu lo hi sl Q I rx hs pl pu h;let⟨a,xs,rfl,hx,hw,q⟩:=h;cases rx;let⟨b6,r,ht,hz⟩:=I.tuple hx;have hlen:b6.toArray.size=B xs:=by rw[Yt];exact r.length.symm
 refine⟨"tuple",_,PyProof.Rows.slot_tuple_getitem.lookup,ht.typeIs,?_⟩;refine HT.Abl ht hs pl pu (by rwa[hlen]) ?_ (by rwa[hlen]);rw[hlen];refine⟨.ref<|c6 s,_,I.laid (t':=s.toks) (o:=.U<|zf xs lo hi) (λb ob q=>Yn _ q) (Yu _) ?_,rfl,q _<|I.i6.fresh<|Yu _⟩;exact⟨Yi (Q2 xs lo hi) hz,_,(r.drop<|HT.aR (B xs) 0 lo).take<|HT.aR (B xs) (B xs) hi-HT.aR (B xs) 0 lo,vg.new _ _⟩
def Zy6(K:Yb):R2:=λx y H Q=>∃a b xs ys,x= .ref a/\y= .ref b/\dJ K H a xs/\dJ K H b ys/\xs≠[]/\xs.length+B ys<=bI/\
 (ys=[]->Q (.ref a) H)/\(ys≠[]->∀p,H p=Yj->Q (.ref p) (upd H p<|.U<|xs++ys))
def Vals.Sx{xs:List V}{us:List Yh}(r:Vals xs us):us=[]↔xs=[]:=by
 cases r with
 |nil=>simp|cons _ _=>simp
def ZuE:bA X (jM .Add) (Zy6 X.K):=by intro b4 s σ H x y v u Q I rx ry h;let⟨a,b,xs,ys,rfl,rfl,ha,hb,hx,hz,q1,q2⟩:=h;cases rx;cases ry;let⟨b6,r1,p1,_⟩:=I.tuple ha;let⟨p5,r2,p2,_⟩:=I.tuple hb;refine HT.Adx p1 p2 (λz=>hx<|r1.Sx.mp z) (λz=>⟨.ref a,H,I,rfl,q1<|r2.Sx.mp z⟩) (λz=>?_) (by rwa[<-r1.length,<-r2.length]);refine⟨.ref<|c6 s,_,I.laid (t':=s.toks) (o:=.U<|xs++ys) (λb ob q=>Yn _ q) (Yu _) ?_,rfl,q2 (λw=>z<|r2.Sx.mpr w) _<|I.i6.fresh<|Yu _⟩;exact⟨by rwa[Yd],_,r1.append r2,vg.new _ _⟩
end
end L2
namespace L2
open PySem PySem.Spec PyProof.Rows
def Fj(n:Nat)(i:Int):Option Nat:=if 0<=i then(if i<n then O i.toNat else Yj)else if -(n:Int)<=i then O (i+n).toNat else Yj
def Bq{α:Type}(xs:List α)(i:Int):Option α:=(Fj (B xs) i).bind λj=>xs[j]?
def Wu{n:Nat}{i:Int}{j:Nat}(h:Fj n i=O j):Um i n=O j/\j<n/\ -(n:Int)<=i/\i<n:=by
 unfold Fj at h;by_cases h0:0<=i
 .rw[c_ h0]at h;by_cases h1:i<n
  .rw[c_ h1]at h;have e:i.toNat=j:=fM h;exact⟨by rw[Ud h0 h1,e],b5,b5,h1⟩
  .rw[d4 h1]at h;cases h
 .rw[d4 h0]at h;by_cases h1:-(n:Int)<=i
  .rw[c_ h1]at h;have e:(i+n).toNat=j:=fM h;exact⟨by rw[Ub (by exact Bc.1 h0) h1,e],b5,h1,b5⟩
  .rw[d4 h1]at h;cases h
def Wv{α:Type}{xs:List α}{i:Int}{v:α}(h:Bq xs i=O v):∃j,Um i (B xs)=O j/\xs[j]?=O v/\j<B xs/\ -(B xs:Int)<=i/\i<B xs:=by
 unfold Bq at h;cases e:Fj (B xs) i with
 |none=>rw[e]at h;cases h|some j=>rw[e]at h;let⟨h1,h2,h3,h4⟩:=Wu e;exact⟨j,h1,h,h2,h3,h4⟩
def Rl(b:Expr):Prop:=∀o i,Nf b false o i=operate [o,i] (tH o i)
def ou(X:Cx)(r:R2):Prop:=
 ∀(value slice:Expr) (b4:List (Yy×aK)) (s:Yl) (σ:St) (H:Hp) (x y:V) (v u:Yh) (Q:VK),Inv X b4 σ H s->RelV x v->RelV y u->r x y H Q ->
  Nf slice false v u=operate [v,u] (tH v u)->aq (aA X.prog X.w) X.A (Vm value slice v u) (EP X b4 σ Q) X.xe s
def mZ(X:Cx)(id:String)(r:V->List V->Hp->VK->Prop):Prop:=
 ∀(b4:List (Yy×aK)) (s:Yl) (σ:St) (H:Hp) (x:V) (xs:List V) (v:Yh) (us:List Yh) (Q:VK),Inv X b4 σ H s->RelV x v->Vals xs us->r x xs H Q ->
  aq (aA X.prog X.w) X.A (call (.builtin id)<|v::us) (EP X b4 σ Q) X.xe s
section
variable {X:Cx} {a b:Expr} {ta tb:TE} {pos:a_}
def ou.or{r r':R2}(h:ou X r)(h':ou X r'):ou X (λx y H Q=>r x y H Q\/r' x y H Q):=by
 intro value slice b4 s σ H x y v u Q I rx ry q hs;rcases q with q|q
 .exact h value slice b4 s σ H x y v u Q I rx ry q hs
 .exact h' value slice b4 s σ H x y v u Q I rx ry q hs
def Zzj{r:R2}(hr:ou X r)(ha:PE X a ta)(hb:PE X b tb)(hs:Rl b):PE X (.Subscript a b pos) (Ff r ta tb):=by intro b4 s σ H Q I h;exact Vn<|Wg ha hb I h λv u s2 x y H2 I2 rx ry q=>hr a b b4 s2 σ H2 x y v u Q I2 rx ry q<|hs _ _
def RA(K:Yb):R2:=λx y H Q=>∃p xs i v,x= .ref p/\y= .int i/\bV K H p xs/\Bq xs i=O v/\Q v H
def RC(K:Yb):R2:=λx y H Q=>∃p xs i v,x= .ref p/\y= .int i/\dJ K H p xs/\Bq xs i=O v/\Q v H
def RE:R2:=λx y H Q=>∃z i c,x= .str z/\y= .int i/\z.length<=bI/\Bq z.cps.toList i=O c/\Q (.str ⟨#[c]⟩) H
def ZuM:ou X (RA X.K):=by
 intro value slice b4 s σ H x y v u Q I rx ry h hs;let⟨p,xs,i,z,rfl,rfl,hq,he,q⟩:=h;cases rx;let⟨t,rfl⟩:=ry;let⟨b6,r,pl,hz⟩:=I.list hq;let⟨j,h1,h2,h3,h4,h5⟩:=Wv he;let⟨w,ew,lV⟩:=r.get h2;have hl:=r.length;have hn:=Jb;have fin:EP X b4 σ Q w s:=⟨z,H,I,lV,q⟩;by_cases h0:0<=i
 .have hj:i.toNat=j:=by
   rw[Ud h0 h5]at h1;exact fM h1
  exact item_listR pl.isList h0 b5 (by rw[hj];simpa using ew) fin hs
 .have hj:(i+(b6.toArray.size:Int)).toNat=j:=by
   rw[Ub (by exact Bc.1 h0) h4]at h1;rw[Yt,<-hl];exact fM h1
  exact MB (x:=w) pl.isList.typeIs slot_list_getitem.lookup
   (wpAny_getItem_list_neg (Q:=λr s'=>r=w/\EP X b4 σ Q r s') pl.isList (by exact Bc.1 h0) (by rw[Yt]<;>omega) b5 (by rw[hj];simpa using ew) ⟨rfl,fin⟩) hs
def Zxv:ou X (RC X.K):=by
 intro value slice b4 s σ H x y v u Q I rx ry h hs;let⟨p,xs,i,z,rfl,rfl,hq,he,q⟩:=h;cases rx;let⟨t,rfl⟩:=ry;let⟨b6,r,pl,hz⟩:=I.tuple hq;let⟨j,h1,h2,h3,h4,h5⟩:=Wv he;let⟨w,ew,lV⟩:=r.get h2;have hl:=r.length;have hn:=Jb;have fin:EP X b4 σ Q w s:=⟨z,H,I,lV,q⟩;exact MB (x:=w) pl.typeIs slot_tuple_getitem.lookup
  (getItem_tuple (j:=j) (Q:=λr s'=>r=w/\EP X b4 σ Q r s') pl b5 b5 (by rwa[Yt,<-hl]) (by simpa using ew) ⟨rfl,fin⟩) hs
def Zxk:ou X RE:=by
 intro value slice b4 s σ H x y v u Q I rx ry h hs;let⟨z,i,c,rfl,rfl,hz,he,q⟩:=h;let⟨t,rfl⟩:=rx;let⟨t',rfl⟩:=ry;let⟨j,h1,h2,h3,h4,h5⟩:=Wv he;have hl:B z.cps.toList=z.length:=by simp[n6]
 rw[hl]at h1 h4 h5;have hn:=Jb;exact tail_any (Eh s z t) slot_str_getitem.lookup (getItem_str (c:=c) (by have e1:decide (i< -(2^63:Int))=false:=j3 b5;have e2:decide (i>=2^63)=false:=j3 b5;rw[e1,e2,Oh]) (by rw[h1];simpa using h2) ⟨.str ⟨#[c]⟩,H,I.tok _,⟨_,rfl⟩,q⟩) hs
def rIx(K:Yb):R2:=λx y H Q=>RA K x y H Q\/RC K x y H Q\/RE x y H Q
def Zx2:ou X (rIx X.K):=ZuM.or<|Zxv.or Zxk
def Zod(b6:List Yh)(n j:Nat)(u:Yh):Bf (·.setIfInBounds j u) {cls:=.type "list",data:=.seq b6.toArray n}={cls:=.type "list",data:=.seq (b6.set j u).toArray n}:=by simp[Bf]
def Inv.L{b4:List (Yy×aK)}{σ:St}{H:Hp}{s:Yl}{p:Yy}{xs:List V}(I:Inv X b4 σ H s)(h:H p=O (.L xs)):
  ∃(b6:List Yh) (n:Nat),Vals xs b6/\s.heap.get? p=O {cls:=.type "list",data:=.seq b6.toArray n}/\xs.length<=bI:=by
 let⟨z,b6,n,r,e⟩:=I.i6 p _ h;exact⟨b6,n,r,e,z⟩
def Inv.AdK{b4:List (Yy×aK)}{σ:St}{H:Hp}{s:Yl}{p:Yy}{xs ys:List V}{b6 its':List Yh}{n n':Nat}{f:aK->aK}(I:Inv X b4 σ H s)(h:H p=O (.L xs))(ho:s.heap.get? p=O {cls:=.type "list",data:=.seq b6.toArray n})(hf:f {cls:=.type "list",data:=.seq b6.toArray n}={cls:=.type "list",data:=.seq its'.toArray n'})(r:Vals ys its')(hz:B ys<=bI)(t:Nat):
  Inv X b4 σ (upd H p<|.L ys) {s with heap:=s.heap.update p f,toks:=t}:=by
 have e:(s.heap.update p f).get? p=O {cls:=.type "list",data:=.seq its'.toArray n'}:=by rw[yP f ho (by rw[hf]<;>rfl),hf]
 refine I.write (x:=p) (e:=p) (by rw[h];trivial) (.inl J) (λb u hb q=>(pF _ _<|cu hb).trans q) ⟨_,e⟩ ?_;exact⟨hz,its',n',r,e⟩
def ZyT:V->V->V->Hp->(Hp->Prop)->Prop:=λo i v H Q=>∃p xs k j,o= .ref p/\i= .int k/\H p=O (.L xs)/\Fj (B xs) k=O j/\Q (upd H p<|.L<|xs.set j v)
def set_list:Pw X ZyT:=by
 intro b4 s σ H o i v ov iv u Q I kk1 kk3 rv h;let⟨p,xs,k,j,rfl,rfl,hp,hj,q⟩:=h;cases kk1;let⟨t,rfl⟩:=kk3;let⟨b6,n,r,ho,hz⟩:=I.L hp;let⟨h1,h2,h3,h4⟩:=Wu hj;have hl:=r.length;have hn:=Jb;have I':Inv X b4 σ (upd H p<|.L<|xs.set j v) {s with heap:=s.heap.update p<|Bf (·.setIfInBounds j u)}:=I.AdK hp ho (Zod b6 n j u) (r.set rv j) (by rwa[tQ]) s.toks;by_cases h0:0<=k
 .have hk:k.toNat=j:=by
   rw[Ud h0 h4]at h1;exact fM h1
  exact PySem.W.ki_setAt ho h0 b5 (by rwa[Yt,<-hl]) (by rw[hk];exact⟨_,I',q⟩)
 .have hk:(k+(b6.toArray.size:Int)).toNat=j:=by
   rw[Ub (by exact Bc.1 h0) h3]at h1;rw[Yt,<-hl];exact fM h1
  exact PySem.W.ki_setBack ho (by exact Bc.1 h0) (by rwa[Yt,<-hl]) b5 (by rw[hk];exact⟨_,I',q⟩)
def Zmm(lo hi:Option Int)(n:Nat):(Av lo hi Yj n).1=((HT.aR n 0 lo:Nat):Int)/\(Av lo hi Yj n).2.1=((HT.aR n n hi:Nat):Int)/\(Av lo hi Yj n).2.2=1:=by
 refine⟨?_,?_,rfl⟩
 .cases lo with
  |none=>simp[Av,HT.aR]|some i=>
   simp only[Av,HT.aR,H0,show(1:Int)>0 by decide,if_true];by_cases h:i<0
   .simp only[h,if_true]<;>exact V2 _ _ h
   .simp only[h,if_false]<;>exact V3 _ _ h
 .cases hi with
  |none=>simp[Av,HT.aR]|some i=>
   simp only[Av,HT.aR,H0,show(1:Int)>0 by decide,if_true];by_cases h:i<0
   .simp only[h,if_true]<;>exact V2 _ _ h
   .simp only[h,if_false]<;>exact V3 _ _ h
def ZkT(b6:List Yh)(lo hi:Option Int):slicePick b6.toArray lo hi Yj=((b6.drop<|HT.aR (B b6) 0 lo).take<|HT.aR (B b6) (B b6) hi-HT.aR (B b6) 0 lo).toArray:=by let⟨h1,h2,h3⟩:=Zmm lo hi b6.toArray.size;unfold slicePick;rw[h1,h2,h3];simp only[sliceRange_one,pick_run,Yt]<;>rfl
def Aex(K:Yb):V->Option Int->Option Int->Hp->VK->Prop:=λx lo hi H Q=>∃a xs,x= .ref a/\bV K H a xs/\∀p,H p=Yj->Q (.ref p) (upd H p<|.L<|zf xs lo hi)
def Zuf:lU X (Aex X.K):=by intro b4 s σ H x v vl vu lo hi sl Q I rx hs pl pu h;let⟨a,xs,rfl,hx,q⟩:=h;cases rx;let⟨b6,r,ht,hz⟩:=I.list hx;have hlen:=r.length;refine⟨"list",_,slot_list_getitem.lookup,ht.isList.typeIs,?_⟩;refine wpAny_getItem_list_slice ht.isList hs pl pu .none i9 ?_ (by rw[Yt]<;>omega);rw[ZkT,<-hlen];refine⟨.ref<|c6 s,_,I.laid (t':=s.toks) (o:=.L<|zf xs lo hi) (λb ob q=>Yn _ q) (Yu _) ?_,rfl,q _<|I.i6.fresh<|Yu _⟩;exact⟨Yi (Q2 xs lo hi) hz,_,0,(r.drop<|HT.aR (B xs) 0 lo).take<|HT.aR (B xs) (B xs) hi-HT.aR (B xs) 0 lo,Y6 _ J⟩
def vo:V->Bool
 | .Z=>true|.bl _=>true|.int _=>true|.str _=>true
 |_=>false
def wW:V->V->Bool
 | .Z,.Z=>true|.bl a,.bl b=>a==b|.bl a,.int b=>(if a then 1 else 0)==b|.int a,.bl b=>a==(if b then 1 else 0)
 | .int a,.int b=>a==b|.str a,.str b=>a==b|_,_=>false
def Zxb{A:bG}{s:Yl}{y x:V}{u v:Yh}(ry:RelV y u)(rx:RelV x v)(Zrs:vo y=true)(fx:vo x=true):wO A s u v (wW y x):=by
 cases y with
 |Z=>
  cases ry
  cases x with
  |Z=>cases rx;exact VH _|bl b=>cases rx;exact NO b|int b=>let⟨t,rfl⟩:=rx;exact NU b t|str b=>let⟨t,rfl⟩:=rx;exact NV b t
  |_=>exact k9 (show false=true from fx) mY
 |bl a=>
  cases ry
  cases x with
  |Z=>cases rx;exact NR a|bl b=>cases rx;exact NS a b|int b=>let⟨t,rfl⟩:=rx;exact NW a b t|str b=>let⟨t,rfl⟩:=rx;exact NX a b t
  |_=>exact k9 (show false=true from fx) mY
 |int a=>
  let⟨t',rfl⟩:=ry;cases x with
  |Z=>cases rx;exact NY a t'|bl b=>cases rx;exact N0 a t' b|int b=>let⟨t,rfl⟩:=rx;exact N3 a t' b t|str b=>let⟨t,rfl⟩:=rx;exact VG a t' b t
  |_=>exact k9 (show false=true from fx) mY
 |str a=>
  let⟨t',rfl⟩:=ry;cases x with
  |Z=>cases rx;exact N1 a t'|bl b=>cases rx;exact N2 a t' b|int b=>let⟨t,rfl⟩:=rx;exact O4 a t' b t|str b=>let⟨t,rfl⟩:=rx;exact N4 a t' b t
  |_=>exact k9 (show false=true from fx) mY
 |_=>exact k9 (show false=true from Zrs) mY
def wX(x:V)(u:Yh):Bool:=match u with
 | .none=>wW .Z x|.bool b=>wW (.bl b) x|.int i _=>wW (.int i) x|.str z _=>wW (.str z) x
 |_=>false
def RF{x y:V}{u:Yh}(r:RelV y u)(f:vo y=true):wX x u=wW y x:=by
 cases y with
 |Z=>cases r;rfl|bl b=>cases r;rfl|int i=>let⟨t,rfl⟩:=r;rfl|str z=>let⟨t,rfl⟩:=r;rfl
 |_=>exact k9 (show false=true from f) mY
theorem Ww{x:V}:∀{xs:List V} {us:List Yh},Vals xs us->xs.all vo=true->us.any (wX x)=xs.any λy=>wW y x
 |_,_,.nil,_=>rfl|y::xs,u::us,.cons r t,f=>by rw[lQ,gO]at f;rw[nY,nY,RF r f.1,Ww t f.2]
theorem Wx{A:bG}{s:Yl}{x:V}{v:Yh}(rx:RelV x v)(fx:vo x=true):∀{xs:List V} {us:List Yh},Vals xs us->xs.all vo=true->∀u∈us,wO A s u v<|wX x u
 |_,_,.nil,_=>λu hu=>by cases hu|y::xs,u::us,.cons r t,f=>λu' hu=>by
  rw[lQ,gO]at f;rcases Yo.mp hu with rfl|hu
  .rw[RF r f.1];exact Zxb r rx f.1 fx
  .exact Wx rx fx t f.2 u' hu
def B5(x:V)(xs:List V):Bool:=xs.any λy=>wW y x
def RH(K:Yb)(neg:Bool):R2:=λx y H Q=>∃p xs,y= .ref p/\(bV K H p xs\/dJ K H p xs)/\vo x=true/\xs.all vo=true/\Q (.bl<|if neg then !B5 x xs else B5 x xs) H
def ZqS:bA X (gM .In) (RH X.K false):=by
 intro b4 s σ H x y v u Q I rx ry h;let⟨p,xs,rfl,hq,fx,fs,q⟩:=h;cases ry;rcases hq with hq|hq
 .let⟨b6,r,pl,hz⟩:=I.list hq;refine NN (wX x) pl.isList (λw hw=>Wx rx fx r fs w<|by simpa using hw) ⟨.bl _,H,I,rfl,?_⟩;rwa[show b6.toArray.any (wX x)=b6.any (wX x)by simp,Ww r fs]
 .let⟨b6,r,pl,hz⟩:=I.tuple hq;refine SeqAt.in_tupleAt (wX x) pl (λw hw=>Wx rx fx r fs w<|by simpa using hw) ⟨.bl _,H,I,rfl,?_⟩;rwa[show b6.toArray.any (wX x)=b6.any (wX x)by simp,Ww r fs]
def dB.or{f:Yh}{r r':List V->Hp->VK->Prop}(h:dB X f r)(h':dB X f r'):dB X f (λxs H Q=>r xs H Q\/r' xs H Q):=by
 intro b4 s σ H xs us Q I rs q;rcases q with q|q
 .exact h b4 s σ H xs us Q I rs q
 .exact h' b4 s σ H xs us Q I rs q
def ZmF:dB X (.type "list") (λxs H Q=>∃p ys,xs=[.ref p]/\(bV X.K H p ys\/dJ X.K H p ys)/\∀l,H l=Yj->Q (.ref l) (upd H l<|.L ys)):=by
 intro b4 s σ H xs us Q I r h;let⟨p,ys,rfl,hq,q⟩:=h;let⟨u,rfl,rx⟩:=vals1 r;cases rx;have fin:∀(b6:List Yh),Vals ys b6->B ys<=bI->∀(h':aH) (c':Nat),(∀b o',s.heap.get? b=O o'->h'.get? b=O o') ->
   h'.get? (c6 s)=O {cls:=.type "list",dict:=Yj,data:=.seq b6.toArray c',slots:=#[]}->EP X b4 σ Q (.ref<|c6 s) {s with heap:=h'}:=λb6 r' hz h' c' kp e=>
  ⟨.ref<|c6 s,_,I.laid (t':=s.toks) kp (Yu _) (show d9 X.prog X.w _ h' _ (.L ys)from⟨hz,b6,c',r',e⟩),rfl,q _<|I.i6.fresh<|Yu _⟩
 rcases hq with hq|hq
 .let⟨b6,r',pl,hz⟩:=I.list hq;have hlen:=r'.length;let⟨o,ho,hc,n,hd⟩:=pl.isList;exact call_list_seq p (.inl J) ho hc hd (λh' c' kp e=>fin b6 r' hz h' c' kp e) (by simp only[Yt]<;>omega)
 .let⟨b6,r',pl,hz⟩:=I.tuple hq;have hlen:=r'.length;let⟨o,ho,hc,n,hd⟩:=pl;exact call_list_seq p (.inr J) ho hc hd (λh' c' kp e=>fin b6 r' hz h' c' kp e) (by simp only[Yt]<;>omega)
def Zk6:dB X (.type "tuple") (λxs H Q=>∃p ys,xs=[.ref p]/\((bV X.K H p ys/\∀l,H l=Yj->Q (.ref l) (upd H l<|.U ys))\/(dJ X.K H p ys/\Q (.ref p) H))):=by
 intro b4 s σ H xs us Q I r h;let⟨p,ys,rfl,h⟩:=h;let⟨u,rfl,rx⟩:=vals1 r;cases rx;rcases h with⟨hq,q⟩|⟨hq,q⟩
 .let⟨b6,r',pl,hz⟩:=I.list hq;have hlen:=r'.length;refine call_tuple_list pl.isList (λh' kp=>?_) (by simp only[Yt]<;>omega);have I1:Inv X b4 σ H {s with heap:=h'}:=I.kept (t':=s.toks) kp;have I2:Inv X b4 σ (upd H h'.objs.size<|.U ys) {s with heap:=h'.push {cls:=.type "tuple",data:=.seq b6.toArray}}:=
   I1.laid (t':=s.toks) (λb o e=>Yn _ e) (Yu _) (show d9 X.prog X.w _ _ _ (.U ys)from⟨hz,b6,r',vg.new _ _⟩)
  exact⟨.ref h'.objs.size,_,I2,rfl,q _<|I1.i6.fresh<|Yu _⟩
 .let⟨b6,r',pl,hz⟩:=I.tuple hq;exact call_tuple_same pl ⟨.ref p,H,I,rfl,q⟩
def Br(K:Yb)(T:String)(x:V)(H:Hp):Prop:=match x with
 | .str _=>T= "str"|.int _=>T= "int"|.ref p=>(T= "list" /\∃xs,bV K H p xs)\/(T= "tuple" /\∃o,K.lookup p=O o/\o.cls= .type "tuple" /\o.dict=Yj)\/
   (T= "dict" /\((∃d5,H p=O (.dK d5))\/∃d5,H p=O (.dT d5)))\/(T= "set" /\∃S n,H p=O (.set S n))
 |_=>False
def RI{b4:List (Yy×aK)}{σ:St}{H:Hp}{s:Yl}{T:String}{x:V}{v:Yh}(I:Inv X b4 σ H s)(r:RelV x v)(ty:Br X.K T x H):
  s.TypeIs v T/\∀a,v= .ref a->∃ob,s.heap.get? a=O ob/\ob.dict=Yj:=by
 cases x with
 |str z=>let⟨t,rfl⟩:=r;cases(show T= "str" from ty);exact⟨Eh s z t,nofun⟩|int i=>let⟨t,rfl⟩:=r;cases(show T= "int" from ty);exact⟨Ui s i t,nofun⟩|ref p=>
  cases r
  rcases ty with⟨rfl,xs,hq⟩|⟨rfl,o,hk,hc,hd⟩|⟨rfl,hk⟩|⟨rfl,S,n,hk⟩
  .let⟨b6,_,pl,_⟩:=I.list hq;refine⟨pl.isList.typeIs,λa e=>?_⟩;cases e;let⟨o,n,e,c,hd,_⟩:=pl;exact⟨o,e,hd⟩
  .refine⟨⟨o,I.cJ p o hk,hc⟩,λa e=>?_⟩;cases e;exact⟨o,I.cJ _ o hk,hd⟩
  .have z:∃o,s.heap.get? p=O o/\o.ExactDict:=by
    rcases hk with⟨d5,hk⟩|⟨d5,hk⟩
    .let⟨_,_,_,_,o,_,_,e,ex,_⟩:=I.i6 p _ hk;exact⟨o,e,ex⟩
    .let⟨_,_,_,_,o,_,_,e,ex,_⟩:=I.i6 p _ hk;exact⟨o,e,ex⟩
   let⟨o,e,ex⟩:=z;refine⟨⟨o,e,ex.1⟩,λa e2=>?_⟩;cases e2;exact⟨o,e,ex.2.1⟩
  .let⟨o,_,_,_,e,ex,_⟩:=I.i6 p _ hk;refine⟨⟨o,e,ex.1⟩,λa e2=>?_⟩;cases e2;exact⟨o,e,ex.2.1⟩
 |_=>exact fZ ty
def RO(K:Yb)(T:String)(r:V->List V->Hp->VK->Prop)(to:TE):TE:=λσ H Q=>to σ H λx H1=>Br K T x H1/\r x [] H1 Q
def RS(K:Yb)(T:String)(r:V->List V->Hp->VK->Prop)(to:TE)(t:TA):TE:=λσ H Q=>to σ H λx H1=>Br K T x H1/\t σ H1 λxs H2=>r x xs H2 Q
variable {o e:Expr} {es:List Expr} {to:TE} {t:TA} {name:aj} {apos f_:a_} {T id:String} {r:V->List V->Hp->VK->Prop}
def ZwQ(pa:PlainAttrs T)(slot:Slot T name id)(wc:typeOf (.builtin id)=pure (.type "method_descriptor"))(hm:mZ X id r)(ho:PE X o to)(p9:o9 o name X.env (aO o X.env)=aO o X.env:=by rfl)(o3:(apos.endLine==f_.line)=true:=by rfl):PE X (.Call (.Attribute o name apos) [] [] f_) (RO X.K T r to):=by intro b4 s σ H Q I h;refine wpAny_Call_method0_late p9 o3<|aP (ho b4 s σ H _ I h) λv s1 ak=>?_;let⟨x,H1,I1,r1,ty,q1⟩:=ak;let⟨h1,h2⟩:=RI I1 r1 ty;exact⟨T,id,pa,slot,wc,h1,h2,VJ J<|PySem.evalArgs_none<|hm b4 s1 σ H1 x [] v [] Q I1 r1 .nil q1⟩
def Jg(pa:PlainAttrs T)(slot:Slot T name id)(wc:typeOf (.builtin id)=pure (.type "method_descriptor"))(hm:mZ X id r)(ho:PE X o to)(ha:PA X (e::es) t)(p9:o9 o name X.env (aO o X.env)=aO o X.env:=by rfl)(rX:((b8 f_<|Yv (e::es) X.env).all (λx=>!x.1)&&(jN f_<|jL [] X.env).all (λx=>x.1.isSome)
   &&decide ((e::es).length+([]:List Keyword).length+(if([]:List Keyword).isEmpty then 0 else 1)<30))=true:=by rfl)(o3:(apos.endLine==f_.line)=true:=by rfl)(hs:Yv (e::es) X.env=(false,aO e X.env)::Yv es X.env:=by rfl)(p4:(b8 f_<|Yv es X.env).any (·.1)=false:=by rfl):
  PE X (.Call (.Attribute o name apos) (e::es) [] f_) (RS X.K T r to t):=by
 intro b4 s σ H Q I h;refine wpAny_Call_method_late p9 rX o3 J<|aP (ho b4 s σ H _ I h) λv s1 ak=>?_;let⟨x,H1,I1,r1,ty,q1⟩:=ak;let⟨h1,h2⟩:=RI I1 r1 ty;refine⟨T,id,pa,slot,wc,h1,h2,?_⟩;have hA:=ha f_ b4 s1 σ H1 _ I1 q1;rw[hs]at hA |-;refine VJ (by show(false|| (b8 f_ (Yv es X.env)).any (·.1))=false;rw[p4]<;>rfl) (VL ?_);exact aP hA λus s2 ⟨vs,H2,I2,r2,q2⟩=>hm b4 s2 σ H2 x vs v us Q I2 r1 r2 q2
end
end L2
namespace L2
open PySem PySem.Spec PyProof.Rows
def PB(X:Cx)(id:String)(r:V->List V->Hp->VK->Prop):Prop:=
 ∀(b4:List (Yy×aK)) (s:Yl) (σ:St) (H:Hp) (x:V) (xs:List V) (v:Yh) (us:List Yh) (Q:VK),Inv X b4 σ H s->RelV x v->Vals xs us->r x xs H Q ->
  aq (aA X.prog X.w) X.A (call (.builtin id)<|v::us) (EP X b4 σ Q) X.xe s
variable{us:List Yh}
def Vals.one{x:V}(h:Vals [x] us):∃u,us=[u]/\RelV x u:=by
 cases h with
 |cons r h=>cases h;exact⟨_,rfl,r⟩
def Vals.two{x y:V}(h:Vals [x,y] us):∃u v,us=[u,v]/\RelV x u/\RelV y v:=by
 cases h with
 |cons r h=>let⟨v,rfl,q⟩:=Vals.one h;exact⟨_,v,rfl,r,q⟩
def Vals.zero:∀{us:List Yh},Vals [] us->us=[]
 |_,.nil=>rfl
variable{xs:List V}
def Vals.dropLast(h:Vals xs us):Vals xs.dropLast us.dropLast:=by
 induction h with
 |nil=>exact .nil|cons r t ih=>
  cases t with
  |nil=>exact .nil|cons q t'=>exact .cons r ih
theorem Vals.eraseIdx:∀{xs:List V} {us:List Yh} (i:Nat),Vals xs us->Vals (xs.eraseIdx i) (us.eraseIdx i)
 |_,_,_,.nil=>.nil|_,_,0,.cons _ t=>t|_,_,i+1,.cons r t=>.cons r<|Vals.eraseIdx i t
def Vals.reverse(h:Vals xs us):Vals xs.reverse us.reverse:=by
 induction h with
 |nil=>exact .nil|cons r t ih=>rw[yK,yK];exact Vals.append ih<|.cons r .nil
theorem Vals.rep(h:Vals xs us):∀k:Nat,Vals (Yq k xs).flatten (Yq k us).flatten
 |0=>.nil|k+1=>by rw[wL,wL,q_,q_];exact Vals.append h<|Vals.rep h k
def Zob{α:Type}(l:List α):l.eraseIdx (B l-1)=l.dropLast:=by
 induction l with
 |nil=>rfl|cons a r ih=>
  cases r with
  |nil=>rfl|cons b r=>
   have e:(a::b::r).length-1=((b::r).length-1)+1:=by have h1:(a::b::r).length=r.length+2:=rfl;have h2:(b::r).length=r.length+1:=rfl;omega
   rw[e,List.eraseIdx_cons_succ,ih]
   all_goals rfl
theorem RU{α:Type}:∀(l:List α) (i:Nat),(l.eraseIdx i).length<=l.length
 |[],_=>Yu _|_::_,0=>tU _|_::r,i+1=>pD<|RU r i
def foldl_rep(b6:List Yh):∀(k:Nat) (acc:List Yh),
  N6 (λx1 x2=>x1++x2) acc.toArray (Yq k b6.toArray)=(acc++(Yq k b6).flatten).toArray
 |0,acc=>by simp|k+1,acc=>by
  have e:acc.toArray++b6.toArray=(acc++b6).toArray:=by simp
  have e2:(acc++b6)++(Yq k b6).flatten=acc++(Yq (k+1) b6).flatten:=by rw[wL,q_,ju]
  rw[<-e2,<-foldl_rep b6 k (acc++b6),<-e,wL,rA]
section
variable {X:Cx} {b4:List (Yy×aK)} {σ:St} {H:Hp} {s:Yl} {l b:Yy} {xs ys zs:List V}
def Inv.Hh{b6 its':List Yh}{n:Nat}{f:Array Yh->Array Yh}{t':Nat}(I:Inv X b4 σ H s)(hH:H l=O (.L xs))(e:s.heap.get? l=O {cls:=.type "list",data:=.seq b6.toArray n})(hf:f b6.toArray=its'.toArray)(hv:Vals ys its')(hz:B ys<=bI):
  Inv X b4 σ (upd H l<|.L ys) {s with heap:=s.heap.update l<|Bf f,toks:=t'}:=by
 have q:=PySem.IsL.update e f;rw[hf]at q;refine I.write (x:=l) (e:=l) (by rw[hH];exact trivial) (.inl J) (λb' u hb hu=>(pF s.heap (Bf f)<|cu hb).trans hu) ⟨_,q⟩ ?_;exact⟨hz,its',_,hv,q⟩
def Inv.RY{b6:List Yh}{t':Nat}(I:Inv X b4 σ H s)(hv:Vals ys b6)(hz:B ys<=bI):
  Inv X b4 σ (upd H (c6 s)<|.L ys) {s with heap:=s.heap.push {cls:=.type "list",data:=.seq b6.toArray},toks:=t'}:=
 I.laid (λ_ _ q=>Yn _ q) (Yu _) ⟨hz,b6,0,hv,Y6 _ J⟩
def Inv.fresh(I:Inv X b4 σ H s):H (c6 s)=Yj:=I.i6.fresh<|Yu _
def Inv.wu(I:Inv X b4 σ H s)(hH:H l=O (.L xs)):B xs<=bI/\∃(b6:List Yh) (n:Nat),Vals xs b6/\xs.length=B b6/\s.heap.get? l=O {cls:=.type "list",data:=.seq b6.toArray n}:=by let⟨z,b6,n,r,e⟩:=I.i6 l _ hH;exact⟨z,b6,n,r,r.length,e⟩
def Wy{n:Nat}(h:n<=bI):Ew n=false:=by unfold Ew;exact j3 b5
end
section
variable {X:Cx}
def R1:V->List V->Hp->VK->Prop:=λx vs H Q=>∃l xs y,x= .ref l/\vs=[y]/\H l=O (.L xs)/\xs.length<bI/\Q .Z (upd H l<|.L<|xs++[y])
theorem Wz:PB X "list.append" R1:=by intro b4 s σ H x vs v us Q I rx rv h;let⟨l,xs,y,rfl,rfl,hH,hz,q⟩:=h;cases rx;let⟨u,rfl,ru⟩:=rv.one;let⟨z,b6,n,r,hl,e⟩:=I.wu hH;refine uV F.slot_list_append ⟨_,e,rfl⟩ F.entry_list_append (F.args_list_append_2 _ _) (PySem.list_append l b6.toArray n u A2) ⟨e,?_⟩;refine⟨.Z,_,I.Hh (its':=b6++[u]) hH e i9 (r.append<|.cons ru .nil) ?_,rfl,q⟩;rw[Yd,Y8];omega
def Sb:V->List V->Hp->VK->Prop:=λx vs H Q=>∃l b xs zs,x= .ref l/\vs=[.ref b]/\H l=O (.L xs)/\H b=O (.L zs)/\xs.length+B zs<=bI/\Q .Z (upd H l<|.L<|xs++zs)
def Zqy:PB X "list.extend" Sb:=by
 intro b4 s σ H x vs v us Q I rx rv h;let⟨l,b,xs,zs,rfl,rfl,hH,hB,hz,q⟩:=h;cases rx;let⟨u,rfl,ru⟩:=rv.one;cases ru;let⟨z,b6,n,r,hl,e⟩:=I.wu hH;let⟨z2,p5,n2,r2,Se,e2⟩:=I.wu hB;have sh:b6.toArray.size+p5.toArray.size<=bI:=by rw[Yt,Yt];omega
 have Hf:¬(!b6.toArray.isEmpty&&Ew (b6.toArray.size+p5.toArray.size))=true:=by rw[Wy sh,mj];exact mY
 refine uV NA ⟨_,e,rfl⟩ Nw (Nn _ _)
  (AutoSeq1.list_extend_list_list_0 l b6.toArray n b p5.toArray n2 Hf A2 b5) ⟨e,e2,?_⟩
 refine⟨.Z,_,I.Hh (its':=b6++p5) hH e i9 (r.append r2) ?_,rfl,q⟩;rwa[Yd]
def Sf:V->List V->Hp->VK->Prop:=λx vs H Q=>∃l xs y,x= .ref l/\vs=[]/\H l=O (.L xs)/\xs[B xs-1]?=O y/\Q y (upd H l<|.L xs.dropLast)
theorem Zw3:PB X "list.pop" Sf:=by
 intro b4 s σ H x vs v us Q I rx rv h;let⟨l,xs,y,rfl,rfl,hH,hy,q⟩:=h;cases rx;have hus:=rv.zero;subst hus;let⟨z,b6,n,r,hl,e⟩:=I.wu hH;let⟨u,hu,ru⟩:=r.get hy;have AO:b6.toArray[b6.toArray.size-1]?=O u:=by show b6.toArray[B b6-1]?=O u;rwa[<-Vp,<-hl]
 refine uV ND ⟨_,e,rfl⟩ NC (F.args_list_pop_1 _) (MeetsSeq.list_pop_last l b6.toArray n u AO A2) ⟨e,?_⟩;refine⟨y,_,I.Hh (its':=b6.dropLast) hH e ?_ r.dropLast ?_,ru,q⟩
 .show b6.toArray.eraseIdxIfInBounds (b6.toArray.size-1)=b6.dropLast.toArray;rw[Yt,Kj,Zob]
 .rw[Us];exact Yi (U_ _ _) z
def Si:V->List V->Hp->VK->Prop:=λx vs H Q=>∃l xs i k y,x= .ref l/\vs=[.int i]/\H l=O (.L xs)/\ -(2^63)<=i/\i<2^63/\Um i (B xs)=O k/\xs[k]?=O y/\Q y (upd H l<|.L<|xs.eraseIdx k)
theorem ZrY:PB X "list.pop" Si:=by
 intro b4 s σ H x vs v us Q I rx rv h;let⟨l,xs,i,k,y,rfl,rfl,hH,h1,h2,hk,hy,q⟩:=h;cases rx;let⟨u,rfl,ru⟩:=rv.one;let⟨t,rfl⟩:=ru;let⟨z,b6,n,r,hl,e⟩:=I.wu hH;let⟨w,hw,lV⟩:=r.get hy;refine uV ND ⟨_,e,rfl⟩ NC (F.args_list_pop_2 _ _)
  (MeetsSeq.list_pop_at l b6.toArray n i t k w (fitsIndex_both h1 h2) (by rwa[Yt,<-hl]) (by rwa[<-Vp]) A2) ⟨e,?_⟩
 refine⟨y,_,I.Hh (its':=b6.eraseIdx k) hH e ?_ (r.eraseIdx k) ?_,lV,q⟩
 .show b6.toArray.eraseIdxIfInBounds k=(b6.eraseIdx k).toArray;rw[Kj]
 .have:=RU xs k;exact Yi this z
def Aey:R2:=λx y H Q=>∃l b xs zs,x= .ref l/\y= .ref b/\H l=O (.L xs)/\H b=O (.L zs)/\xs.length+B zs<=bI/\∀p,H p=Yj->Q (.ref p) (upd H p<|.L<|xs++zs)
def Zxj:bA X (jM .Add) Aey:=by
 intro b4 s σ H x y v u Q I rx ry h;let⟨l,b,xs,zs,rfl,rfl,hH,hB,hz,q⟩:=h;cases rx;cases ry;let⟨z,b6,n,r,hl,e⟩:=I.wu hH;let⟨z2,p5,n2,r2,Se,e2⟩:=I.wu hB;refine PySem.P.add_list e e2 ?_ (by rw[Yt,Yt];omega);have ea:b6.toArray++p5.toArray=(b6++p5).toArray:=by simp
 rw[ea];exact⟨.ref _,_,I.RY (t':=s.toks) (r.append r2) (by rwa[Yd]),rfl,q _ I.fresh⟩
def Aez:R2:=λx y H Q=>∃l k xs,x= .ref l/\y= .int k/\H l=O (.L xs)/\ -(2^63)<=k/\k<2^63/\xs.length*k.toNat<=bI/\
 ∀p,H p=Yj->Q (.ref p) (upd H p<|.L (Yq k.toNat xs).flatten)
def len_rep{α:Type}(xs:List α)(k:Nat):(Yq k xs).flatten.length=k*B xs:=by
 induction k with
 |zero=>simp|succ k ih=>rw[wL,q_,Yd,ih,Nat.succ_mul,l_]
theorem ZwK:bA X (jM .Mult) Aez:=by
 intro b4 s σ H x y v u Q I rx ry h;let⟨l,k,xs,rfl,rfl,hH,h1,h2,hz,q⟩:=h;cases rx;let⟨t,rfl⟩:=ry;let⟨z,b6,n,r,hl,e⟩:=I.wu hH;have hlen:b6.toArray.size*k.toNat<=bI:=by rwa[Yt,<-hl]
 have AeA:¬b6.toArray.size*k.toNat>(2^63-1) / 8:=by
  have:(bI:Nat)<=(2^63-1) / 8:=by decide
  omega
 have xp:¬(!Builtin.List.listFitsIndex k)=true:=by rw[fitsIndex_both h1 h2];exact mY
 have Hf:¬Ew (b6.toArray.size*k.toNat)=true:=by rw[Wy hlen];exact mY
 have z5:N6 (λx1 x2=>x1++x2) #[] (Yq (if b6.toArray.isEmpty=true then 0 else k.toNat) b6.toArray)=(Yq k.toNat b6).flatten.toArray:=by
  have f0:∀m:Nat,N6 (λx1 x2=>x1++x2) #[] (Yq m b6.toArray)=(Yq m b6).flatten.toArray:=λm=>by have:=foldl_rep b6 m [];rwa[jw]at this
  rw[f0];cases b6 with
  |nil=>simp|cons a r'=>rw[d4 i9]
 refine wpAny_binaryOp_repeat_ref (T:="list") (U:="int") aaA ⟨_,e,rfl⟩ (λs'=>Ui s' k t) noFill_list_mul F.fills_int_mul NF repeat_list F.slot_int_index.lookup
  (uV NF (Ui s k t) F.entry_int_rmul (F.args_int_rmul_2 _ _) (int___rmul___int_list k t l b6.toArray n)
   ⟨e,rfl,⟨_,e,rfl⟩,uV F.slot_list_mul ⟨_,e,rfl⟩ F.entry_list_mul (F.args_list_mul_2 _ _) (AutoListH.list___mul___list_int_3 l b6.toArray n k t xp AeA Hf) ⟨e,?_⟩⟩)
 rw[z5];exact⟨.ref _,_,I.RY (t':=s.toks) (r.rep k.toNat) (by rwa[len_rep,Nat.mul_comm]),rfl,q _ I.fresh⟩
end
end L2
namespace Sj
open PySem PySem.W PySem.Calls PyProof.Rows
def Zjf{P:Params}{h:aH}:∀(ns:List Int) (vs:List Yh),WellAll P h vs (ns.map WData.int)->IntsAre vs ns:=by
 intro ns
 induction ns with
 |nil=>intro vs w;rw[uX]at w;cases w;exact .nil|cons n ns ih=>
  intro vs w;rw[Yw]at w;cases w with
  |cons a b=>
   cases a
   exact .cons _ _<|ih _ b
def Zq3{l:OpenLaw}{n:Nat}(hn:l.most=O n){P:Params}{h:aH}{args:List WData}{vals:List Yh}(xw:l.row.toRowW.claim.pre args=true)(DF:WellAll P h vals args):
  ∃a vs ns,vals=[Value.ref a]/\args=[WData.list<|ns.map WData.int]/\h.get? a=O {cls:=.type "list",data:=.seq vs.toArray}/\IntsAre vs ns/\ns.length<=n:=by
 have hsh:WShape.hasAll [] args [.list .int]=true:=(pre_splitW xw).1;have hc:l.pre.holds [] {args:=args}=true:=(pre_splitW xw).2;let⟨d,r,rfl,h1,h2⟩:=hasAllW_cons hsh;obtain rfl:=hasAllW_nil h2;let⟨xs,rfl,h3⟩:=hasW_list h1;let⟨ns,rfl⟩:=items_int h3;have hlen:B ns<=n:=by
  unfold OpenLaw.pre at hc;have h4:(WTm.not<|.lt (.lit<|.int (n:Int))<|.len<|.arg 0).holds [] {args:=[.list<|ns.map .int]}=true:=by have h4:=(holds_andW hc).1;rwa[hn]at h4
  have h5:=condW_of h4<|w_not<|w_lt w_lit<|w_len_list<|w_arg J;rw[Ym]at h5;refine k_ λq=>?_;have q':(n:Int)<((B ns:Nat):Int):=by exact Vj.2 q
  first
   |(rw[j2 q']at h5;exact k9 h5 aaA)
   |(simp at h5;omega)
 cases DF with
 |cons w1 w2=>
  cases w2
  cases w1 with
  |list ho rj=>exact⟨_,_,ns,rfl,rfl,ho,Zjf ns _ rj,hlen⟩
def ZqK(l:OpenLaw)(args:List WData):l.row.toRowW.claim.post args (.bool true) args=true:=
 postW_of (r:=l.row.toRowW) (X:=(true==true))
  (show WShape.has [] (.bool true) .bool=true by first|rfl|decide|simp[WShape.has,WShape.arms,WShape.armsAll])
  (show(WTm.eq .res<|.lit<|.bool true).value [] {args:=args,res:=O<|.bool true,after:=args}=O (.bool<|true==true)from w_eq_bool (w_res J) w_lit) J
def Aci{l:OpenLaw}{n:Nat}{q:Y9}{loose:List aj}{XP:(aj->Option Yh)->aH->Prop}{YP:aQ->aH->Prop}{d:DefRec}(hn:l.most=O n)(A5:d.params.defaults=[])(call:∀(w:aQ) (s₀ s₁:Yl) (mg mb:aj->Option Yh) (fa:Yy) (o:aK) (pm cd doc:Yh) (a:Yy) (vs:List Yh) (ns:List Int),
   Ground q loose [] XP w s₀ mg mb s₁.heap->YP w s₁.heap ->
   s₁.heap.get? fa=O o->o.data= .func (docDef d.name d.params d.body d.scope pm cd doc)->s₁.heap.CodeRec cd d.name->mg d.name=O (.ref fa) ->
   s₁.heap.get? a=O {cls:=.type "list",data:=.seq vs.toArray}->IntsAre vs ns->B ns<=n->s₁.gens= #[] ->
   kO (aA l.prog w) yC (.call (.ref fa) ⟨[.ref a],[]⟩) (λr s'=>r= .ok (.ret<|.bool true)/\OldK s₁.heap s'.heap/\s'.os=s₁.os/\u9 s'.gens) s₁):
  WalkO q loose XP YP l.row.toRowW d [] (λf vs=>Uj f vs):=by
 intro w s₀ s₁ mg mb G Y fa o pm cd doc dV kV ho hd tI hD A6 hg args vals as xw hlay hrd DF hlo;obtain rfl:dV= .none:=Dflts.none hD A5;obtain rfl:kV= .none:=Dflts.noKw hD;let⟨a,vs,ns,rfl,rfl,qS,hints,hlen⟩:=Zq3 hn xw DF;refine enter_call<|tE (call w s₀ s₁ mg mb fa o pm cd doc a vs ns G Y ho (fd_plain hd) tI A6 qS hints hlen hg) λr s' hq=>?_;let⟨rfl,h2,h3,h4⟩:=hq;exact⟨.inl ⟨.bool true,.bool true,[],rfl,λ_=>rfl,.bool true,ZqK l _,λ_=>⟨List.Pairwise.nil,λ_ hm=>(nomatch hm)⟩⟩,h2,h3,h4⟩
end Sj
namespace L2
open PySem PySem.Spec PyProof.Rows
theorem Sk:∀{vs:List Yh} {ns:List Int},IntsAre vs ns->Vals (ns.map V.int) vs
 |_,_,.nil=>.nil|_,_,.cons n t h=>.cons ⟨t,rfl⟩<|Sk h
def An(H:Hp):Prop:=∀b,H b=Yj\/∃o xs,H b=O (.cY o<|.L xs)
def ZsG{P:Y9}{w:aQ}{K:Yb}{mg mb:aj->Option Yh}{CX:qH}{k:Nat}{fa a:Yy}{fd:lJ}{x:aj}{sp:Sp}{s₁:Yl}{vs:List Yh}{ns:List Int}(KX:K.In s₁.heap)(tN:s₁.heap.Ns Y7 mg)(hb:s₁.heap.Ns Ue mb)(hbb:∀x:aj,x≠ "__name__" ->mb x=jY x)(DH:s₁.heap.NoLimit)(hg:s₁.gens= #[])(ha:s₁.heap.get? a=O {cls:=.type "list",data:=.seq vs.toArray})(hi:IntsAre vs ns)(hl:B ns<=bI)(hr:dM k yC)(F:∀base:aH,K.In base->base.Ns Y7 mg->h_ P w K mg base CX k fa fd [x] sp)(A7:∀(s:Yl) (u:Yh),Ek s fd ⟨[u],[]⟩ [(x,u)])(uu:∀H:Hp,An H->bV K H a (ns.map V.int)->sp [.ref a] H (λv _=>v= .bl true) λ_ _ _=>False)(WD:∀H e s',CX [] H s₁ (λ_ _ _=>False) e s'->False):
  kO (aA P w) yC (.call (.ref fa) ⟨[.ref a],[]⟩) (λr s'=>r= .ok (.ret<|.bool true)/\OldK s₁.heap s'.heap/\s'.os=s₁.os/\u9 s'.gens) s₁:=by
 have rv:=Sk hi;have DI:=hi.length;have core:∀H:Hp,An H->bV K H a (ns.map V.int)->gP P w H s₁.heap->(∀b,H b≠Yj->b=a)->(H a≠Yj->K.lookup a=Yj) ->
   kO (aA P w) yC (.call (.ref fa) ⟨[.ref a],[]⟩) (λr s'=>r= .ok (.ret<|.bool true)/\OldK s₁.heap s'.heap/\s'.os=s₁.os/\u9 s'.gens) s₁:=by
  intro H hO hS i6 hA hK;have Sl:∀{b:Yy} {o:aK},s₁.heap.get? b=O o->H b=Yj->(wR s₁.heap H).get? b=O o:=λe n=>Zso e n;have Jd:∀{b:Yy} {o:aK} {es:Array DictEntry} {ep:Nat},s₁.heap.get? b=O o->o.data= .dict es ep->H b=Yj:=λ{b o es ep} e d=>by
   cases q:H b with
   |none=>rfl|some u=>have e':b=a:=hA b (by rw[q];simp);subst e';rw[ha]at e;cases e;have d':Data.seq vs.toArray _=Data.dict es ep:=d;cases d'
  have PJ:∀{b:Yy} {m:aj->Option Yh},s₁.heap.Ns b m->(wR s₁.heap H).Ns b m:=λ{b m} ⟨o,es,ep,e,d,r⟩=>⟨o,es,ep,Sl e<|Jd e d,d,r⟩;have Sn:K.In (wR s₁.heap H):=λb o e=>Sl (KX b o e) (by
   cases q:H b with
   |none=>rfl|some u=>have e':b=a:=hA b (by rw[q];simp);subst e';rw[hK (by rw[q];simp)]at e;cases e)
  have hM:Mod K mg (wR s₁.heap H):=⟨Sn,PJ tN,⟨mb,PJ hb,hbb⟩,let⟨hSa,h1,h2⟩:=DH;⟨hSa,PJ h1,h2⟩⟩;have e0:vm P w K mg (wR s₁.heap H) yC [] s₁ H:=⟨rfl,hM,λb o e=>ZvM e,lR<|Zqh _ _,trivial,λb hb=>k9 (show b∈([]:List Yy)from hb) i9,i6,.of_eq hg⟩;refine tE ((F _ Sn<|PJ tN).run yC [] s₁ H ⟨[.ref a],[]⟩ [.ref a] [.ref a] _ _ hr e0 (A7 s₁<|.ref a) (.cons J .nil)<|uu H hO hS) λr s' h=>?_;cases r with
  |error e=>exact(WD H e s' h).elim|ok fl=>
   cases fl with
   |next=>exact fZ h|brk=>exact fZ h|cont=>exact fZ h|ret u=>
    let⟨v,H',os,bare,un,DJ,r',q⟩:=h;have q':v= .bl true:=q;subst q';obtain rfl:u=Value.bool true:=r';refine⟨rfl,OldK.of_keep λb o e=>?_,os,bare⟩;cases q:H b with
    |none=>exact un.keep b o e q (by intro z;exact k9 (show b∈([]:List Yy)from z) i9) (by simp)|some u=>
     rcases hO b with z|⟨ob,xs,z⟩
     .rw[q]at z;cases z
     .have z2:=un.mQ b ob _ z;let⟨e1,_⟩:=i6 b _ z;let⟨e2,_⟩:=DJ b _ z2;rw[e]at e1;cases e1;exact e2
 cases hk:K.lookup a with
 |some o=>have e:=KX a o hk;rw[ha]at e;cases e;refine core (λ_=>Yj) (λ_=>.inl J) (.inr ⟨_,vs.toArray,_,hk,rfl,rfl,rfl,by rwa[Yt,DI],by simpa using rv⟩) (λb u z=>by have z':(Yj:Option HO)=O u:=z;cases z') (λb z=>k9 J z) λz=>k9 J z|none=>
  refine core (λb=>if b=a then O (.cY {cls:=.type "list",data:=.seq vs.toArray}<|.L<|ns.map V.int)else Yj) (λb=>?_) (.inl<|.inr ⟨{cls:=.type "list",data:=.seq vs.toArray},c_ J⟩) (λb u z=>?_) (λb z=>?_) λ_=>hk
  .by_cases hb:b=a
   .exact .inr ⟨_,_,c_ hb⟩
   .exact .inl<|d4 hb
  .by_cases hb:b=a
   .have z':=(c_ hb).symm.trans z;cases z';subst hb;exact⟨ha,by rwa[Ym],vs,_,rv,ha⟩
   .have z':=(d4 hb).symm.trans z;cases z'
  .by_cases hb:b=a
   .exact hb
   .exact k9 (d4 hb) z
end L2
namespace L2
open PySem PySem.Spec PyProof.Rows
def Zp9{l:PySem.W.OpenLaw}{n k:Nat}{q:Y9}{loose:List aj}{XP:(aj->Option Yh)->aH->Prop}{YP:aQ->aH->Prop}{d:DefRec}{K:Params->Yb}{CX:aQ->qH}{sp:aQ->Sp}{x:aj}(hn:l.most=O n)(ua:n<=bI)(A5:d.params.defaults=[])(hr:dM k yC)(hY:∀(w:aQ) (h:aH),YP w h->(K w.params).In h)(F:∀(w:aQ) (mg:aj->Option Yh) (fa:Yy) (h:aH),(K w.params).In h->h.Ns Y7 mg->mg d.name=O (.ref fa) ->
   ∃fd:lJ,(∀(s:Yl) (u:Yh),Ek s fd ⟨[u],[]⟩ [(x,u)])/\
    ∀base:aH,(K w.params).In base->base.Ns Y7 mg->h_ l.prog w (K w.params) mg base (CX w) k fa fd [x] (sp w))(uu:∀(w:aQ) (H:Hp) (a:Yy) (ns:List Int),B ns<=n->An H->bV (K w.params) H a (ns.map V.int)->sp w [.ref a] H (λv _=>v= .bl true) λ_ _ _=>False)(WD:∀(w:aQ) (H:Hp) (s:Yl) (e:Yh) (s':Yl),CX w [] H s (λ_ _ _=>False) e s'->False):
  II q loose XP YP l.row.toRowW d [] (λf vs=>Uj f vs):=by
 refine Sj.Aci hn A5 λw s₀ s₁ mg mb fa o pm cd doc a vs ns G Y ho hd tI A6 qS hints hlen hg=>?_;have KX:=hY w _ Y;let⟨fd,hb,hF⟩:=F w mg fa _ KX G.T.g A6;exact ZsG KX G.T.g G.T.b G.T.builtins G.T.nolimit hg qS hints (Yi hlen ua) hr hF hb (λH hO hS=>uu w H a ns hlen hO hS) λH e s'=>WD w H s₁ e s'
end L2
namespace L2
open PySem PySem.Spec PyProof.Rows
def oA(s:Ydv):Arguments:=match s with
 | .FunctionDef _ a _ _ _ _ _ _ _ _=>a|_=>{posonlyargs:=[],args:=[],vararg:=Yj,kwonlyargs:=[],kw_defaults:=[],kwarg:=Yj,defaults:=[]}
def jz(s:Ydv):List Ydv:=match s with
 | .FunctionDef _ _ b _ _ _ _ _ _ _=>b|_=>[]
def bJ(s:Ydv):Scope:=match s with
 | .FunctionDef _ _ _ _ _ _ sc _ _ _=>sc|_=>{kind:=.function,names:=[],isGenerator:=false,isCoroutine:=false}
abbrev m_:qH:=λ_ _ _ _ _ _=>False
abbrev E0:XK:=λ_ _ _=>False
def So{X:Cx}:Jc m_ X E0:=λ_ _ _ _ _ _ _ h=>h.elim
structure rG(K:Yb)(x qual:aj)(st:Ydv)(f:Yy)(fd:lJ):Prop where
 ex:∃(oc:Yh) (od:Option Yy) (dV kV doc pm:Yh) (an:Option Yy) (j0 ct:Yh) (sM:Array (Option Yh)),
  fd=q8 x qual (oA st) (jz st) (bJ st) dV kV doc pm an j0 ct/\K.lookup f=O ⟨oc,od,.func fd,sM⟩/\Ea K j0 qual=true
 kp:sZ K (.ref f)=true
section
variable {P:Y9} {w:aQ} {K:Yb} {mg:aj->Option Yh} {base:aH}
theorem rG.ok{x qual:aj}{st:Ydv}{f:Yy}{fd:lJ}{N ps:List aj}{k:Nat}{sp:Sp}(F:rG K x qual st f fd)(S:dN N ps (bJ st))(len:∀vs H Q E,sp vs H Q E->B vs=B ps)(vT:∀(j0:Yh) (A:bG) (outer:List dz) (s:Yl) (H:Hp) (vs:List V) (Q:VK) (E:XK),dM k (A.deeper<|nZ qual (bJ st) (c6 s) f j0)->sp vs H Q E ->
   ∃t,lz (qI m_ P w K mg base N qual (bJ st) f j0 A outer s H E).jP (jz st) t/\t {nx:=λ_ H'=>Q .Z H',rt:=Q} (start N vs) H):h_ P w K mg base m_ (k+1) f fd ps sp:=by
 let⟨oc,od,dV,kV,doc,pm,an,j0,ct,sM,rfl,lk,tI⟩:=F.ex;refine Ws lk tI S len λA outer s H vs Q E hr uu=>?_;let⟨t,h,q⟩:=vT j0 A outer s H vs Q E hr uu;exact⟨t,h.jP,q⟩
theorem rG.binds{x qual:aj}{st:Ydv}{f:Yy}{fd:lJ}{ps:List aj}(F:rG K x qual st f fd)(h:∀(dV kV doc pm:Yh) (an:Option Yy) (j0 ct:Yh) (us:List Yh),B us=B ps->bindArgs (q8 x qual (oA st) (jz st) (bJ st) dV kV doc pm an j0 ct) ⟨us,[]⟩=pure (ps.zip us)):Binds K fd ps []:=by let⟨oc,od,dV,kV,doc,pm,an,j0,ct,sM,rfl,lk,tI⟩:=F.ex;exact .all<|h dV kV doc pm an j0 ct
def Sr{x qual:aj}{st:Ydv}{f:Yy}{oc:Yh}{od an:Option Yy}{sM:Array (Option Yh)}{dV kV doc pm j0 ct:Yh}(l:K.lookup f=O ⟨oc,od,.func<|q8 x qual (oA st) (jz st) (bJ st) dV kV doc pm an j0 ct,sM⟩)(c:Ea K j0 qual=true)(k:sZ K (.ref f)=true):rG K x qual st f (q8 x qual (oA st) (jz st) (bJ st) dV kV doc pm an j0 ct):=⟨⟨oc,od,dV,kV,doc,pm,an,j0,ct,sM,rfl,l,c⟩,k⟩
end
def zj(H H':Hp):Prop:=∀b o,H b=O o->H' b=O o
def zj.trans{H H1 H2:Hp}(a:zj H H1)(b:zj H1 H2):zj H H2:=λc o h=>b c o<|a c o h
def zj.free{H H':Hp}(e:zj H H'){l:Yy}(h:H' l=Option.none):H l=Option.none:=by
 cases q:H l with
 |none=>rfl|some o=>rw[e l o q]at h;cases h
def zj.seq{K:Yb}{H H':Hp}{a:Yy}{xs:List V}(e:zj H H')(h:bV K H a xs):bV K H' a xs:=by
 rcases h with(h|⟨o,h⟩)|h
 exact .inl<|.inl<|e _ _ h;exact .inl<|.inr ⟨o,e _ _ h⟩;exact .inr h
end L2
namespace L2
open PySem PySem.Spec PyProof.Rows
section
variable {κ:Type} [DecidableEq κ]
def oE(d5:List (κ×V))(k:κ):Option V:=(d5.find? λkv=>decide<|kv.1=k).map (·.2)
def putK(d5:List (κ×V))(k:κ)(v:V):List (κ×V):=if(d5.any λkv=>decide<|kv.1=k)=true then d5.map (λkv=>if kv.1=k then(kv.1,v)else kv)else d5++[(k,v)]
def Zsl{k:κ}:oE ([]:List (κ×V)) k=Yj:=rfl
def PL{p:κ×V}{r:List (κ×V)}{k:κ}(e:p.1=k):oE (p::r) k=O p.2:=by simp[oE,Ep,e]
def PN{p:κ×V}{r:List (κ×V)}{k:κ}(e:¬p.1=k):oE (p::r) k=oE r k:=by simp[oE,Ep,e]
theorem Sz(k:κ):∀d5:List (κ×V),(d5.any λkv=>decide<|kv.1=k)=(oE d5 k).isSome
 |[]=>rfl|p::r=>by
  rw[nY];by_cases e:p.1=k
  .simp only[PL e,j2 e,Bool.true_or,HZ]
  .rw[PN e,j3 e,L8];exact Sz k r
def qD.AcO{o:Option V}{u:Option Yh}(r:qD o u):o.isSome=u.isSome:=by
 cases o with
 |none=>cases u with
  |none=>rfl|some _=>exact(show False from r).elim
 |some _=>cases u with
  |none=>exact(show False from r).elim|some _=>rfl
def qD.getD{o:Option V}{u:Option Yh}{d:V}{d':Yh}(r:qD o u)(rd:RelV d d'):RelV (o.getD d) (u.getD d'):=by
 cases o with
 |none=>cases u with
  |none=>exact rd|some _=>exact(show False from r).elim
 |some _=>cases u with
  |none=>exact(show False from r).elim|some _=>exact r
def KV.val{d5:List (κ×V)}{vs:List (κ×Yh)}(r:KV d5 vs)(k:κ):qD (oE d5 k) (El vs k):=by
 unfold KV at r
 induction r with
 |nil=>exact True.intro|@cons p q ps qs h t ih=>
  let⟨h1,h2⟩:=h;by_cases e:p.1=k
  .have e':q.1=k:=h1.symm.trans e;have b:El (q::qs) k=O q.2:=by simp[El,Ep,e']
   rwa[PL e,b]
  .have e':¬q.1=k:=λz=>e<|h1.trans z;have b:El (q::qs) k=El qs k:=by simp[El,Ep,e']
   rwa[PN e,b]
def KV.any{d5:List (κ×V)}{vs:List (κ×Yh)}(r:KV d5 vs)(k:κ):(d5.any λkv=>decide<|kv.1=k)=vs.any λkv=>decide<|kv.1=k:=by
 unfold KV at r
 induction r with
 |nil=>rfl|cons h t ih=>rw[nY,nY,ih,h.1]
def KV.uB{d5:List (κ×V)}{vs:List (κ×Yh)}(r:KV d5 vs)(k:κ){y:V}{u:Yh}(ry:RelV y u):
  KV (d5.map λkv=>if kv.1=k then(kv.1,y)else kv) (vs.map λkv=>if kv.1=k then(kv.1,u)else kv):=by
 unfold KV at r |-
 induction r with
 |nil=>exact .nil|@cons p q ps qs h t ih=>
  rw[Yw,Yw];refine .cons ?_ ih;let⟨h1,h2⟩:=h;by_cases e:p.1=k
  .rw[c_ e,c_<|h1.symm.trans e];exact⟨h1,ry⟩
  .rw[d4 e,d4 λz=>e<|h1.trans z];exact⟨h1,h2⟩
def KV.put{d5:List (κ×V)}{vs:List (κ×Yh)}(r:KV d5 vs)(k:κ){y:V}{u:Yh}(ry:RelV y u):KV (putK d5 k y) (stored vs k u):=by
 unfold putK stored;rw[r.any k];by_cases e:(vs.any λkv=>decide<|kv.1=k)=true
 .rw[c_ e,c_ e];exact r.uB k ry
 .rw[d4 e,d4 e];exact Paired.snoc r ⟨rfl,ry⟩
def KV.length{d5:List (κ×V)}{vs:List (κ×Yh)}(r:KV d5 vs):B d5=B vs:=OK r
end
abbrev KT(H:Hp):List (List Key×V)->List (List Key×Yy×Yh)->Prop:=Paired λp q=>p.1=q.1/\H q.2.1=O (.U<|p.1.map kV)/\RelV p.2 q.2.2
variable{H:Hp}{d5:List (List Key×V)}{xs:List (List Key×Yy×Yh)}
def KT.val(r:KT H d5 xs)(k:List Key):qD (oE d5 k) ((yH xs k).map (·.2)):=by
 induction r with
 |nil=>exact True.intro|@cons p q ps qs h t ih=>
  let⟨h1,_,h2⟩:=h;by_cases e:p.1=k
  .have e':q.1=k:=h1.symm.trans e;have b:yH (q::qs) k=O q.2:=by simp[yH,Ep,e']
   rwa[PL e,b]
  .have e':¬q.1=k:=λz=>e<|h1.trans z;have b:yH (q::qs) k=yH qs k:=by simp[yH,Ep,e']
   rwa[PN e,b]
def KT.uB(r:KT H d5 xs)(k:List Key){y:V}{u:Yh}(ry:RelV y u):
  KT H (d5.map λkv=>if kv.1=k then(kv.1,y)else kv) (xs.map<|putAt k u):=by
 induction r with
 |nil=>exact .nil|@cons p q ps qs h t ih=>
  rw[Yw,Yw];refine .cons ?_ ih;let⟨h1,h2,h3⟩:=h;unfold putAt;by_cases e:p.1=k
  .rw[c_ e,c_<|h1.symm.trans e];exact⟨h1,h2,ry⟩
  .rw[d4 e,d4 λz=>e<|h1.trans z];exact⟨h1,h2,h3⟩
def KT.put(r:KT H d5 xs)(k:List Key){b:Yy}{y:V}{u:Yh}(hb:H b=O (.U<|k.map kV))(ry:RelV y u):
  KT H (putK d5 k y) (storedH xs k b u):=by
 have e:(d5.any λkv=>decide<|kv.1=k)=(yH xs k).isSome:=by rw[Sz,(r.val k).AcO,Option.isSome_map]
 unfold putK storedH;rw[e];by_cases q:(yH xs k).isSome=true
 .rw[c_ q,c_ q];exact r.uB k ry
 .rw[d4 q,d4 q];exact Paired.snoc r ⟨rfl,hb,ry⟩
def KT.keeps{H':Hp}(r:KT H d5 xs)(ht:∀b ys,H b=O (.U ys)->H' b=O (.U ys)):KT H' d5 xs:=Paired.SM r λ_ _ z=>⟨z.1,ht _ _ z.2.1,z.2.2⟩
def PQ(H:Hp)(a:Yy)(y:V)(r:Option V):Prop:=(∃d5 k,Rd H a (.dK d5)/\y=kV k/\r=oE d5 k)\/∃d5 k b,Rd H a (.dT d5)/\y= .ref b/\H b=O (.U<|k.map kV)/\r=oE d5 k
def PX(H:Hp)(a:Yy)(y v:V)(H':Hp):Prop:=
 (∃d5 k,H a=O (.dK d5)/\y=kV k/\d5.length<bI/\H'=upd H a (.dK<|putK d5 k v))\/
 ∃d5 k b,H a=O (.dT d5)/\y= .ref b/\H b=O (.U<|k.map kV)/\d5.length<bI/\H'=upd H a (.dT<|putK d5 k v)
def PQ.k{H:Hp}{a:Yy}{d5:List (Key×V)}{k:Key}(e:H a=O (.dK d5)):PQ H a (kV k) (oE d5 k):=.inl ⟨d5,k,.inl e,rfl,rfl⟩
def PQ.t{a b:Yy}{k:List Key}(e:H a=O (.dT d5))(eb:H b=O (.U<|k.map kV)):PQ H a (.ref b) (oE d5 k):=.inr ⟨d5,k,b,.inl e,rfl,eb,rfl⟩
def PX.k{H:Hp}{a:Yy}{d5:List (Key×V)}{k:Key}{v:V}(e:H a=O (.dK d5))(hl:B d5<bI):PX H a (kV k) v (upd H a<|.dK<|putK d5 k v):=.inl ⟨d5,k,e,rfl,hl,rfl⟩
def PX.t{a b:Yy}{k:List Key}{v:V}(e:H a=O (.dT d5))(eb:H b=O (.U<|k.map kV))(hl:B d5<bI):
  PX H a (.ref b) v (upd H a<|.dT<|putK d5 k v):=.inr ⟨d5,k,b,e,rfl,eb,hl,rfl⟩
def P_(i:Expr):Prop:=∀ov iv,Nf i false ov iv=operate [ov,iv] (tH ov iv)
def Zvz{prog:Y9}{w:aQ}{A:bG}{E:Yh->Yl->Prop}{s:Yl}{env:dz}{value slice:Expr}{pos:a_}{T id:String}{Q:Yh->Yl->Prop}(hl:Uh (.type T) "__getitem__" =pure (O<|.builtin id))(hs:P_ slice)(h:aq (aA prog w) A (aO value env) (λo s₁=>aq (aA prog w) A (aO slice env) (λi s₂=>s₂.TypeIs o T/\aq (aA prog w) A (tH o i) Q E s₂) E s₁) E s):
  aq (aA prog w) A (aO (.Subscript value slice pos) env) Q E s:=by
 refine Vn<|gD h (λo s₁ h₁=>gD h₁ (λi s₂ h₂=>?_) λ_ _ x=>x) λ_ _ x=>x;let⟨hT,h₂⟩:=h₂;unfold Vm;refine Yc ?_;rw[getitemInPython_of_ne hT.not_modules];refine Yc<|TY hT hl ?_;have fin:aq (aA prog w) A (Nf slice false o i) (λr s₃=>aq (aA prog w) A (letTemporaryGo value o r>>=λ_=>pure r) Q E s₃) E s₂:=by rw[hs o i];exact wpAny_operating<|gD h₂ (λr s₃ h₃=>Yc<|wpAny_letTemporaryGo<|Yr h₃) λ_ _ x=>x
 first
  |exact Yr (Yc fin)
  |exact Yc (Yr (Yc fin))
  |exact Yc fin
structure M1(X:Cx)(o:Expr)(m:aj)(apos:a_)(e:Expr)(f_:a_):Prop where
 base:o9 o m X.env (aO o X.env)=aO o X.env
 SA:((b8 f_<|Yv [e] X.env).all (λx=>!x.1)&&(jN f_<|jL [] X.env).all (λx=>x.1.isSome)
  &&decide (([e]:List Expr).length+([]:List Keyword).length+(if([]:List Keyword).isEmpty then 0 else 1)<30))=true
 line:(apos.endLine==f_.line)=true
 trees:b8 f_ (Yv [e] X.env)=[(false,aO e X.env)]
structure M2(X:Cx)(o:Expr)(m:aj)(apos:a_)(e f:Expr)(f_:a_):Prop where
 base:o9 o m X.env (aO o X.env)=aO o X.env
 SA:((b8 f_<|Yv [e,f] X.env).all (λx=>!x.1)&&(jN f_<|jL [] X.env).all (λx=>x.1.isSome)
  &&decide (([e,f]:List Expr).length+([]:List Keyword).length+(if([]:List Keyword).isEmpty then 0 else 1)<30))=true
 line:(apos.endLine==f_.line)=true
 trees:b8 f_ (Yv [e,f] X.env)=[(false,aO e X.env),(false,aO f X.env)]
end L2
namespace L3
open PySem
variable{hi lo:Option Int}{T:vp}{env:bO}{it:ir}{M:b3}
noncomputable section
inductive D where
 |Z|bl (b:Bool)|int (i:Int)|str (x:List Nat)|U (ds:List D)|bB (ds:List D)|ref (n:Nat)
 deriving Inhabited
abbrev jA:=Sum Int<|List Nat
inductive MO where
 |L (xs:List D)|qq (d5:List (jA×D))|dY (d5:List (jA×D))|ins (c:List Nat) (fs:List (List Nat×D))
 deriving Inhabited
abbrev _root_.c9:=List D
abbrev _root_.b9:=List Nat
abbrev _root_.sA:=List<|List D
abbrev _root_.d6:=List<|List Nat
abbrev b3:=List MO
structure X3 where
 cls:b9
 arg:D
inductive R3(α:Type)where
 |ok (a:α) (M:b3)|exc (x:X3) (M:b3)|bad
@[simp] def R3.bind{α β:Type}(r:R3 α)(k:α->b3->R3 β):R3 β:=match r with
 | .ok a M=>k a M|.exc x M=>.exc x M|.bad=>.bad
def R3.Ady{α β:Type}(a:α)(M:b3)(k:α->b3->R3 β):(R3.ok a M).bind k=k a M:=rfl
def ft{C:Prop}(h:false=true):C:=Bool.noConfusion h
def j4{α:Type}{C:Prop}{k:α}(h:Yj=O k):C:=by cases h
def fO:Nat->D->Bool
 |_,.Z=>true|_,.bl _=>true|_,.int _=>true|_,.str _=>true
 |n+1,.U ds=>ds.all (fO n)|_,_=>false
abbrev qE:Nat:=60
mutual
def fP:D->D->Bool
 | .Z,.Z=>true|.bl a,.bl b=>a==b|.int a,.int b=>a==b|.str a,.str b=>a==b
 | .U a,.U b=>jQ a b|.bl a,.int b=>(if a then 1 else 0)==b|.int a,.bl b=>a==(if b then 1 else 0)|_,_=>false
def jQ:c9->c9->Bool
 |[],[]=>true|a::x,b::y=>fP a b&&jQ x y|_,_=>false
end
def SD(a b:b9):fP (.str a) (.str b)=(a==b):=rfl
def SE(a b:c9):fP (.U a) (.U b)=jQ a b:=rfl
def ZwG:jQ [] []=true:=rfl
def WK(a b:D)(x y:c9):jQ (a::x) (b::y)=(fP a b&&jQ x y):=rfl
mutual
def below(n:Nat):D->Bool
 | .U ds=>eN n ds|.bB ds=>eN n ds|.ref k=>k<n|.Z=>true| .bl _=>true| .int _=>true| .str _=>true
def eN(n:Nat):c9->Bool
 |[]=>true|d::ds=>below n d&&eN n ds
end
mutual
def same:D->D->Bool
 | .Z,.Z=>true|.bl a,.bl b=>a==b|.int a,.int b=>a==b|.str a,.str b=>a==b
 | .U a,.U b=>Fl a b|.bB a,.bB b=>Fl a b|.ref a,.ref b=>a==b|_,_=>false
def Fl:c9->c9->Bool
 |[],[]=>true|a::x,b::y=>same a b&&Fl x y|_,_=>false
end
mutual
theorem SF:∀{a b:D},same a b=true->a=b
 | .Z,b,h=>by cases b<;>first|exact rfl|exact ft h
 | .bl a,b,h=>by cases b<;>first|exact congrArg D.bl (beq_iff_eq.mp h)|exact ft h
 | .int a,b,h=>by cases b<;>first|exact congrArg D.int (beq_iff_eq.mp h)|exact ft h
 | .str a,b,h=>by cases b<;>first|exact congrArg D.str (beq_iff_eq.mp h)|exact ft h
 | .U a,b,h=>by cases b<;>first|exact congrArg D.U (WL h)|exact ft h
 | .bB a,b,h=>by cases b<;>first|exact congrArg D.bB (WL h)|exact ft h
 | .ref a,b,h=>by cases b<;>first|exact congrArg D.ref (beq_iff_eq.mp h)|exact ft h
theorem WL:∀{x y:c9},Fl x y=true->x=y
 |[],y,h=>by cases y<;>first|exact rfl|exact ft h
 |a::x,y,h=>by
  cases y with
  |nil=>exact ft h|cons b y=>exact have w:=Ybi.mp (h:(same a b&&Fl x y)=true);congr (congrArg _<|SF w.1) (WL w.2)
end
mutual
theorem SG:∀(a:D),same a a=true
 | .Z=>rfl|.bl a=>beq_self_eq_true a|.int a=>beq_self_eq_true a|.str a=>beq_self_eq_true a
 | .U a=>WM a|.bB a=>WM a|.ref a=>beq_self_eq_true a
theorem WM:∀(x:c9),Fl x x=true
 |[]=>rfl|a::x=>Ybi.mpr ⟨SG a,WM x⟩
end
def same_iff{a b:D}:same a b=true↔a=b:=⟨SF,λh=>h▸SG a⟩
instance:DecidableEq D:=λa b=>decidable_of_iff (same a b=true) same_iff
instance:DecidableEq MO:=λa b=>match a,b with
 | .L x,.L y=>if h:x=y then isTrue (by rw[h])else isFalse (by intro e;cases e;exact h J)|.qq x,.qq y=>if h:x=y then isTrue (by rw[h])else isFalse (by intro e;cases e;exact h J)|.dY x,.dY y=>if h:x=y then isTrue (by rw[h])else isFalse (by intro e;cases e;exact h J)|.ins c x,.ins d y=>if h:c=d/\x=y then isTrue (by rw[h.1,h.2])else isFalse (by intro e;cases e;exact h ⟨rfl,rfl⟩)
 | .ins _ _,.L _=>isFalse vi|.ins _ _,.qq _=>isFalse vi|.ins _ _,.dY _=>isFalse vi|.L _,.ins _ _=>isFalse vi
 | .qq _,.ins _ _=>isFalse vi|.dY _,.ins _ _=>isFalse vi|.L _,.qq _=>isFalse vi|.L _,.dY _=>isFalse vi
 | .qq _,.L _=>isFalse vi|.qq _,.dY _=>isFalse vi|.dY _,.L _=>isFalse vi|.dY _,.qq _=>isFalse vi
@[simp] abbrev SZ:Nat:=1000000
abbrev bO:=List<|Option D
abbrev E3:=bO->b3->R3 D
abbrev d_:=bO->b3->R3 c9
abbrev F3:=c9->b3->R3 D
inductive O3 where
 |nx (env:bO) (M:b3)|rt (d:D) (M:b3)|bk (env:bO) (M:b3)|ct (env:bO) (M:b3)|exc (x:X3) (M:b3)|bad
abbrev S3:=bO->b3->O3
@[simp] def Zb(i:Nat):E3:=λenv M=>match env[i]? with
 |some (O d)=>.ok d M|_=>.bad
@[simp] def eC(d:D):E3:=λ_ M=>.ok d M
@[simp] def e1(op:D->b3->R3 D)(f:E3):E3:=λenv M=>(f env M).bind op
@[simp] def e2(op:D->D->b3->R3 D)(f g:E3):E3:=λenv M=>(f env M).bind λa M1=>(g env M1).bind λb M2=>op a b M2
@[simp] def Ze:d_:=λ_ M=>.ok [] M
@[simp] def Za(f:E3)(g:d_):d_:=λenv M=>(f env M).bind λa M1=>(g env M1).bind λb M2=>.ok (a::b) M2
@[simp] def alloc(o:MO)(M:b3):R3 D:=.ok (.ref<|B M)<|M++[o]
section
local instance (priority:=100000) Afr (p:Prop):Decidable p:=Yz p
@[simp] def ji(g:d_):E3:=λenv M=>(g env M).bind λds M1=>if B ds<=SZ then .ok (.U ds) M1 else .bad
end
section
local instance (priority:=100000) Afs (p:Prop):Decidable p:=Yz p
@[simp] def Zz(g:d_):E3:=λenv M=>(g env M).bind λds M1=>if B ds<=SZ then alloc (.L ds) M1 else .bad
end
@[simp] def cN(f g:E3):E3:=λenv M=>(f env M).bind λa M1=>match a with
 | .bl true=>g env M1|.bl false=>.ok (.bl false) M1|_=>.bad
@[simp] def dh(f g:E3):E3:=λenv M=>(f env M).bind λa M1=>match a with
 | .bl false=>g env M1|.bl true=>.ok (.bl true) M1|_=>.bad
def pH(a:D)(M:b3):R3 D:=match a with
 | .bl b=>.ok (.bl<|!b) M|_=>.bad
@[simp] theorem Zz0:∀b,pH (.bl b) M= .ok (.bl<|!b) M:=λ_=>rfl
@[simp] def j5(c f g:E3):E3:=λenv M=>(c env M).bind λa M1=>match a with
 | .bl true=>f env M1|.bl false=>g env M1|_=>.bad
@[simp] def aJ(F:F3)(g:d_):E3:=λenv M=>(g env M).bind λds M1=>F ds M1
section
local instance (priority:=100000) Aft (p:Prop):Decidable p:=Yz p
def Zv(a b:D)(M:b3):R3 D:=match a,b with
 | .int i,.int j=>.ok (.int<|i+j) M|.str x,.str y=>if x.length+y.length<=SZ then .ok (.str<|x++y) M else .bad|.U x,.U y=>if x.length+y.length<=SZ then .ok (.U<|x++y) M else .bad|.ref n,.ref m=>match M[n]?,M[m]? with
  |some (.L x),O (.L y)=>if x.length+y.length<=SZ then alloc (.L<|x++y) M else .bad|_,_=>.bad
 |_,_=>.bad
@[simp] theorem oF:∀i j,Zv (.int i) (.int j) M= .ok (.int<|i+j) M:=λ_ _=>rfl
@[simp] theorem ZtO:∀x y,Zv (.str x) (.str y) M=(if x.length+y.length<=SZ then .ok (.str<|x++y) M else .bad):=λ_ _=>rfl
@[simp] theorem SH:∀x y,Zv (.U x) (.U y) M=(if x.length+y.length<=SZ then .ok (.U<|x++y) M else .bad):=λ_ _=>rfl
@[simp] theorem ZtB:∀n m,Zv (.ref n) (.ref m) M=(match M[n]?,M[m]? with
  |some (.L x),O (.L y)=>if x.length+y.length<=SZ then alloc (.L<|x++y) M else .bad|_,_=>.bad):=λ_ _=>rfl
end
def iu(a b:D)(M:b3):R3 D:=match a,b with
 | .int i,.int j=>.ok (.int<|i-j) M|_,_=>.bad
@[simp] theorem Jh:∀i j,iu (.int i) (.int j) M= .ok (.int<|i-j) M:=λ_ _=>rfl
section
local instance (priority:=100000) Afu (p:Prop):Decidable p:=Yz p
def wY(i j:Int):Bool:=(decide (-(2^64)<i)&&decide (i<2^64))|| (decide (-(2^64)<j)&&decide (j<2^64))
end
section
local instance (priority:=100000) Afv (p:Prop):Decidable p:=Yz p
def gQ(a b:D)(M:b3):R3 D:=match a,b with
 | .int i,.int j=>if wY i j then .ok (.int<|i*j) M else .bad|.str x,.int k=>if x.length*k.toNat<=SZ/\k<1000000/\ -1000000<k then .ok (.str (Yq k.toNat x).flatten) M else .bad|.ref n,.int k=>match M[n]? with
  |some (.L x)=>if x.length*k.toNat<=SZ/\k<1000000/\ -1000000<k then alloc (.L (Yq k.toNat x).flatten) M else .bad|_=>.bad
 |_,_=>.bad
@[simp] theorem Zy4:∀i j,gQ (.int i) (.int j) M=(if wY i j then .ok (.int<|i*j) M else .bad):=λ_ _=>rfl
@[simp] theorem Zr9:∀x k,gQ (.str x) (.int k) M=(if x.length*k.toNat<=SZ/\k<1000000/\ -1000000<k then .ok (.str (Yq k.toNat x).flatten) M else .bad):=λ_ _=>rfl
@[simp] theorem Zz2:∀n k,gQ (.ref n) (.int k) M=(match M[n]? with
  |some (.L x)=>if x.length*k.toNat<=SZ/\k<1000000/\ -1000000<k then alloc (.L (Yq k.toNat x).flatten) M else .bad|_=>.bad):=λ_ _=>rfl
end
def Zx(a b:D)(M:b3):R3 D:=match a,b with
 | .int i,.int j=>if 0<j then .ok (.int<|i % j) M else .bad|_,_=>.bad
@[simp] theorem SI:∀i j,Zx (.int i) (.int j) M=(if 0<j then .ok (.int<|i % j) M else .bad):=λ_ _=>rfl
section
local instance (priority:=100000) Afw (p:Prop):Decidable p:=Yz p
def Zw(a b:D)(M:b3):R3 D:=match a,b with
 | .int i,.int j=>if 0<j/\j<1073741824 then .ok (.int<|i / j) M else .bad|_,_=>.bad
@[simp] theorem SK:∀i j,Zw (.int i) (.int j) M=(if 0<j/\j<1073741824 then .ok (.int<|i / j) M else .bad):=λ_ _=>rfl
end
def Qa(a b:D)(M:b3):R3 D:=match a,b with
 | .int i,.int j=>if 0<=j/\j<=1000/\i.natAbs<1000 then .ok (.int<|i^j.toNat) M else .bad|_,_=>.bad
@[simp] theorem SO:∀i j,Qa (.int i) (.int j) M=(if 0<=j/\j<=1000/\i.natAbs<1000 then .ok (.int<|i^j.toNat) M else .bad):=λ_ _=>rfl
def cU(a:D)(M:b3):R3 D:=match a with
 | .int i=>.ok (.int<|-i) M|_=>.bad
@[simp] theorem Zrp:∀i,cU (.int i) M= .ok (.int<|-i) M:=λ_=>rfl
def eE(a b:D)(M:b3):R3 D:=match a,b with
 | .int i,.int j=>.ok (.bl<|decide<|i<j) M|_,_=>.bad
@[simp] theorem mq:∀i j,eE (.int i) (.int j) M= .ok (.bl<|decide<|i<j) M:=λ_ _=>rfl
def pI(a b:D)(M:b3):R3 D:=match a,b with
 | .int i,.int j=>.ok (.bl<|decide<|i<=j) M|_,_=>.bad
@[simp] theorem Qc:∀i j,pI (.int i) (.int j) M= .ok (.bl<|decide<|i<=j) M:=λ_ _=>rfl
def dW(a b:D)(M:b3):R3 D:=match a,b with
 | .int i,.int j=>.ok (.bl<|decide<|j<i) M|_,_=>.bad
@[simp] theorem j6:∀i j,dW (.int i) (.int j) M= .ok (.bl<|decide<|j<i) M:=λ_ _=>rfl
def t8(a b:D)(M:b3):Option Bool:=match a,b with
 | .ref n,.ref m=>match M[n]?,M[m]? with
  |some (.L x),O (.L y)=>if x.all (fO qE)&&y.all (fO qE)then O (jQ x y)else Yj|_,_=>Yj
 | .int i,.int j=>O (decide<|i=j)|.str x,.str y=>O (decide<|x=y)|.bl x,.bl y=>O (decide<|x=y)|.U x,.U y=>if x.all (fO qE)&&y.all (fO qE)then O (jQ x y)else Yj
 |_,_=>Yj
@[simp] theorem Bt:∀n m,t8 (.ref n) (.ref m) M=(match M[n]?,M[m]? with
  |some (.L x),O (.L y)=>if x.all (fO qE)&&y.all (fO qE)then O (jQ x y)else Yj|_,_=>Yj):=λ_ _=>rfl
@[simp] theorem rH:∀i j,t8 (.int i) (.int j) M=O (decide<|i=j):=λ_ _=>rfl
@[simp] theorem vy:∀x y,t8 (.str x) (.str y) M=O (decide<|x=y):=λ_ _=>rfl
@[simp] theorem Ji:∀x y,t8 (.bl x) (.bl y) M=O (decide<|x=y):=λ_ _=>rfl
@[simp] theorem Jj:∀x y,t8 (.U x) (.U y) M=(if x.all (fO qE)&&y.all (fO qE)then O (jQ x y)else Yj):=λ_ _=>rfl
@[simp] def aN(a b:D)(M:b3):R3 D:=match t8 a b M with
 |some r=>.ok (.bl r) M|none=>.bad
@[simp] def iJ(a b:D)(M:b3):R3 D:=match t8 a b M with
 |some r=>.ok (.bl<|!r) M|none=>.bad
def pJ(a b:D)(M:b3):R3 D:=match b with
 | .Z=>.ok (.bl<|decide<|a= .Z) M|_=>.bad
@[simp] theorem Afx{a:D}:pJ a (.Z) M= .ok (.bl<|decide<|a= .Z) M:=rfl
def Jk(a b:D)(M:b3):R3 D:=match b with
 | .Z=>.ok (.bl<|!decide (a= .Z)) M|_=>.bad
@[simp] theorem Zx0{a:D}:Jk a (.Z) M= .ok (.bl<|!decide (a= .Z)) M:=rfl
def e_:D->Bool
 | .Z=>true| .bl _=>true| .int _=>true| .str _=>true|_=>false
def WN(a:D)(y:b9):Option Bool:=match a with
 | .str [c]=>O (decide<|c∈y)|_=>Yj
@[simp] theorem Afy{y:b9}:∀c,WN (.str [c]) y=O (decide<|c∈y):=λ_=>rfl
def inD(a b:D):Option Bool:=match b with
 | .str y=>WN a y|.U ys=>if e_ a&&ys.all e_ then O (ys.any λy=>fP y a)else Yj|_=>Yj
@[simp] theorem Afz{a:D}:∀y,inD a (.str y)=WN a y:=λ_=>rfl
@[simp] theorem Zx1{a:D}:∀ys,inD a (.U ys)=(if e_ a&&ys.all e_ then O (ys.any λy=>fP y a)else Yj):=λ_=>rfl
@[simp] def ni(a b:D)(M:b3):R3 D:=match inD a b with
 |some r=>.ok (.bl r) M|none=>.bad
def nj(n:Nat)(i:Int):Option Nat:=if 0<=i then(if i<n then O i.toNat else Yj)else if -(n:Int)<=i then O (i+n).toNat else Yj
def iY{α:Type}(xs:List α)(i:Int):Option α:=(nj (B xs) i).bind λj=>xs[j]?
def SS:D->Option jA
 | .int i=>O (.inl i)|.str x=>O (.inr x)|_=>Yj
def Jl:List (jA×D)->jA->Option D
 |[],_=>Yj|(k,v)::r,x=>if k=x then O v else Jl r x
section
local instance (priority:=100000) AfA (p:Prop):Decidable p:=Yz p
def Zn(a b:D)(M:b3):R3 D:=match a,b with
 | .U ds,.int i=>match iY ds i with
  |some d=>.ok d M|none=>.bad
 | .bB ds,.int i=>match iY ds i with
  |some d=>.ok d M|none=>.bad
 | .str x,.int i=>match iY x i with
  |some c=>if x.length<=SZ then .ok (.str [c]) M else .bad|none=>.bad
 | .ref n,.int i=>match M[n]? with
  |some (.L ds)=>match iY ds i with
   |some d=>.ok d M|none=>.bad
  |_=>.bad
 |_,_=>.bad
@[simp] theorem SU:∀ds i,Zn (.U ds) (.int i) M=(match iY ds i with
  |some d=>.ok d M|none=>.bad):=λ_ _=>rfl
@[simp] theorem SV:∀ds i,Zn (.bB ds) (.int i) M=(match iY ds i with
  |some d=>.ok d M|none=>.bad):=λ_ _=>rfl
@[simp] theorem WP:∀x i,Zn (.str x) (.int i) M=(match iY x i with
  |some c=>if x.length<=SZ then .ok (.str [c]) M else .bad|none=>.bad):=λ_ _=>rfl
@[simp] theorem SW:∀n i,Zn (.ref n) (.int i) M=(match M[n]? with
  |some (.L ds)=>match iY ds i with
   |some d=>.ok d M|none=>.bad
  |_=>.bad):=λ_ _=>rfl
end
def SY:Option MO->Option (List<|jA×D)
 |some (.qq d5)=>O d5|some (.dY d5)=>O d5|_=>Yj
def Zyd(a b:D)(M:b3):R3 D:=match a with
 | .ref n=>match SY M[n]?,SS b with
  |some d5,O x=>match Jl d5 x with
   |some d=>.ok d M|none=>.bad
  |_,_=>.bad
 |_=>.bad
@[simp] theorem Zyv{b:D}:∀n,Zyd (.ref n) b M=(match SY M[n]?,SS b with
  |some d5,O x=>match Jl d5 x with
   |some d=>.ok d M|none=>.bad
  |_,_=>.bad):=λ_=>rfl
def aR(n d:Nat):Option Int->Nat
 |none=>d|some v=>if v<0 then(v+(n:Int)).toNat else gw v.toNat n
def cutD{α:Type}(xs:List α)(lo hi:Option Int):List α:=(xs.drop<|aR (B xs) 0 lo).take<|aR (B xs) (B xs) hi-aR (B xs) 0 lo
abbrev Bu:=bO->b3->R3 (Option Int)
@[simp] def bh:Bu:=λ_ M=>.ok Yj M
@[simp] def aX(f:E3):Bu:=λenv M=>(f env M).bind λa M1=>match a with
 | .int i=>.ok (O i) M1|_=>.bad
section
local instance (priority:=100000) AfB (p:Prop):Decidable p:=Yz p
def Bv(a:D)(lo hi:Option Int)(M:b3):R3 D:=match a with
 | .U ds=>.ok (.U<|cutD ds lo hi) M|.bB ds=>alloc (.L<|cutD ds lo hi) M|.str x=>if x.length<=SZ then .ok (.str<|cutD x lo hi) M else .bad|.ref n=>match M[n]? with
  |some (.L ds)=>alloc (.L<|cutD ds lo hi) M|_=>.bad
 |_=>.bad
@[simp] theorem Fo:∀ds,Bv (.U ds) lo hi M= .ok (.U<|cutD ds lo hi) M:=λ_=>rfl
@[simp] theorem Fp:∀ds,Bv (.bB ds) lo hi M=alloc (.L<|cutD ds lo hi) M:=λ_=>rfl
@[simp] theorem Bw:∀x,Bv (.str x) lo hi M=(if x.length<=SZ then .ok (.str<|cutD x lo hi) M else .bad):=λ_=>rfl
@[simp] theorem zm:∀n,Bv (.ref n) lo hi M=(match M[n]? with
  |some (.L ds)=>alloc (.L<|cutD ds lo hi) M|_=>.bad):=λ_=>rfl
end
@[simp] def bf(f:E3)(lo hi:Bu):E3:=λenv M=>(f env M).bind λa M1=>(lo env M1).bind λl M2=>(hi env M2).bind λh M3=>Bv a l h M3
section
local instance (priority:=100000) AfC (p:Prop):Decidable p:=Yz p
def aV(ds:c9)(M:b3):R3 D:=match ds with
 |[.U x]=>.ok (.int x.length) M|[.bB x]=>.ok (.int x.length) M|[.str x]=>if x.length<=SZ then .ok (.int x.length) M else .bad|[.ref n]=>match M[n]? with
  |some (.L x)=>.ok (.int x.length) M|_=>.bad
 |_=>.bad
@[simp] theorem Bx:∀x,aV ([.U x]) M= .ok (.int x.length) M:=λ_=>rfl
@[simp] theorem BJ:∀x,aV ([.bB x]) M= .ok (.int x.length) M:=λ_=>rfl
@[simp] theorem BK:∀x,aV ([.str x]) M=(if x.length<=SZ then .ok (.int x.length) M else .bad):=λ_=>rfl
@[simp] theorem t_:∀n,aV ([.ref n]) M=(match M[n]? with
  |some (.L x)=>.ok (.int x.length) M|_=>.bad):=λ_=>rfl
end
def iy(ds:c9)(M:b3):R3 D:=match ds with
 |[.U x]=>.ok (.U x) M|[.bB x]=>.ok (.U x) M|[.ref n]=>match M[n]? with
  |some (.L x)=>.ok (.U x) M|_=>.bad
 |_=>.bad
@[simp] theorem Ta:∀x,iy ([.U x]) M= .ok (.U x) M:=λ_=>rfl
@[simp] theorem Tb:∀x,iy ([.bB x]) M= .ok (.U x) M:=λ_=>rfl
@[simp] theorem Fq:∀n,iy ([.ref n]) M=(match M[n]? with
  |some (.L x)=>.ok (.U x) M|_=>.bad):=λ_=>rfl
def wZ(ds:c9)(M:b3):R3 D:=match ds with
 |[.U x]=>alloc (.L x) M|[.bB x]=>alloc (.L x) M|[.ref n]=>match M[n]? with
  |some (.L x)=>alloc (.L x) M|_=>.bad
 |_=>.bad
@[simp] theorem ZrH:∀x,wZ ([.U x]) M=alloc (.L x) M:=λ_=>rfl
@[simp] theorem ZrE:∀x,wZ ([.bB x]) M=alloc (.L x) M:=λ_=>rfl
@[simp] theorem Jm:∀n,wZ ([.ref n]) M=(match M[n]? with
  |some (.L x)=>alloc (.L x) M|_=>.bad):=λ_=>rfl
inductive vp where
 |int|bool|str|list|tuple
 deriving DecidableEq
def vz(T:vp)(d:D)(M:b3):Option Bool:=match d with
 | .Z=>O false|.bl _=>O (T== .bool|| T== .int)|.int _=>O (T== .int)|.str _=>O<|T== .str
 | .U _=>O (T== .tuple)|.bB _=>Yj|.ref n=>match M[n]? with
  |some (.L _)=>O (T== .list)|some (.qq _)=>O false|some (.dY _)=>Yj|some (.ins _ _)=>Yj
  |none=>Yj
@[simp] theorem AfD:vz T (.Z) M=O false:=rfl
@[simp] theorem AfE:∀w0,vz T (.bl w0) M=O (T== .bool|| T== .int):=λ_=>rfl
@[simp] theorem AfF:∀w0,vz T (.int w0) M=O (T== .int):=λ_=>rfl
@[simp] theorem AfG:∀w0,vz T (.str w0) M=O (T== .str):=λ_=>rfl
@[simp] theorem AfH:∀w0,vz T (.U w0) M=O (T== .tuple):=λ_=>rfl
@[simp] theorem AfI:∀w0,vz T (.bB w0) M=Yj:=λ_=>rfl
@[simp] theorem AfJ:∀n,vz T (.ref n) M=(match M[n]? with
  |some (.L _)=>O (T== .list)|some (.qq _)=>O false|some (.dY _)=>Yj|some (.ins _ _)=>Yj
  |none=>Yj):=λ_=>rfl
@[simp] def w5(T:vp)(d:D)(M:b3):R3 D:=match vz T d M with
 |some b=>.ok (.bl b) M|none=>.bad
def Jo:D->Bool
 | .bl _=>true|_=>false
def Ft:D->Bool
 | .bl b=>b|_=>false
def allB(l:c9):Option Bool:=if l.all Jo then O (l.all Ft)else Yj
def uc(ds:c9)(M:b3):R3 D:=match ds with
 | [.ref n]=>match M[n]? with
  |some (.L x)=>match allB x with
   |some b=>.ok (.bl b) M|none=>.bad
  |_=>.bad
 |_=>.bad
@[simp] theorem Fv:∀n,uc ([.ref n]) M=(match M[n]? with
  |some (.L x)=>match allB x with
   |some b=>.ok (.bl b) M|none=>.bad
  |_=>.bad):=λ_=>rfl
def qJ(o:D)(ds:c9)(M:b3):R3 D:=match o,ds with
 | .str x,[.str y]=>if x.length<=SZ/\y.length<=SZ then .ok (.bl<|y.isPrefixOf x) M else .bad|_,_=>.bad
@[simp] theorem BL:∀x y,qJ (.str x) ([.str y]) M=(if x.length<=SZ/\y.length<=SZ then .ok (.bl<|y.isPrefixOf x) M else .bad):=λ_ _=>rfl
section
local instance (priority:=100000) Afn (p:Prop):Decidable p:=Yz p
def cD(o:D)(ds:c9)(M:b3):R3 D:=match o,ds with
 | .ref n,[d]=>match M[n]? with
  |some (.L x)=>if x.length<SZ then .ok .Z (M.set n<|.L<|x++[d])else .bad|_=>.bad
 |_,_=>.bad
@[simp] theorem WQ:∀n d,cD (.ref n) ([d]) M=(match M[n]? with
  |some (.L x)=>if x.length<SZ then .ok .Z (M.set n<|.L<|x++[d])else .bad|_=>.bad):=λ_ _=>rfl
end
section
local instance (priority:=100000) AfK (p:Prop):Decidable p:=Yz p
def rJ(o:D)(ds:c9)(M:b3):R3 D:=match o,ds with
 | .ref n,[.int i]=>match M[n]? with
  | some (.L x)=>if -1000000<=i/\i<=1000000 then match nj x.length i with
   |some k=>match x[k]? with
    |some d=>.ok d (M.set n<|.L<|x.eraseIdx k)|none=>.bad
   |none=>.bad
   else .bad
  |_=>.bad
 | .ref n,[]=>match M[n]? with
  |some (.L x)=>match x[x.length-1]? with
   |some d=>.ok d (M.set n<|.L x.dropLast)|none=>.bad
  |_=>.bad
 |_,_=>.bad
@[simp] theorem To:∀n i,rJ (.ref n) ([.int i]) M=(match M[n]? with
  | some (.L x)=>if -1000000<=i/\i<=1000000 then match nj x.length i with
   |some k=>match x[k]? with
    |some d=>.ok d (M.set n<|.L<|x.eraseIdx k)|none=>.bad
   |none=>.bad
   else .bad
  |_=>.bad):=λ_ _=>rfl
@[simp] theorem WR:∀n,rJ (.ref n) ([]) M=(match M[n]? with
  |some (.L x)=>match x[x.length-1]? with
   |some d=>.ok d (M.set n<|.L x.dropLast)|none=>.bad
  |_=>.bad):=λ_=>rfl
end
def fQ(a:D)(_:b3):Bool:=match a with
 | .str _=>true|_=>false
@[simp] theorem Zyi{abt:b3}:∀w0,fQ (.str w0) abt=true:=λ_=>rfl
def bK(a:D)(M:b3):Bool:=match a with
 | .ref n=>match M[n]? with
  |some (.L _)=>true|_=>false
 |_=>false
@[simp] theorem Fw:∀n,bK (.ref n) M=(match M[n]? with
  |some (.L _)=>true|_=>false):=λ_=>rfl
@[simp] def aU(ty:D->b3->Bool)(m:D->c9->b3->R3 D)(o:E3)(g:d_):E3:=λenv M=>(o env M).bind λa M1=>if ty a M1 then(g env M1).bind λds M2=>m a ds M2 else .bad
@[simp] def aD(b:c9->b3->R3 D)(g:d_):E3:=λenv M=>(g env M).bind λds M1=>b ds M1
def putD(k:jA)(v:D)(d5:List (jA×D)):List (jA×D):=if(d5.any λp=>decide<|p.1=k)=true then d5.map (λp=>if p.1=k then(p.1,v)else p)else d5++[(k,v)]
@[simp] def e3(op:D->D->D->b3->R3 D)(f g h:E3):E3:=λenv M=>(f env M).bind λa M1=>(g env M1).bind λb M2=>(h env M2).bind λc M3=>op a b c M3
def WT(v a b:D)(M:b3):R3 D:=match a,b with
 | .ref n,.int i=>match M[n]? with
  |some (.L xs)=>match nj (B xs) i with
   |some j=>.ok .Z (M.set n<|.L<|xs.set j v)|none=>.bad
  |_=>.bad
 |_,_=>.bad
@[simp] theorem Ts{v:D}:∀n i,WT v (.ref n) (.int i) M=(match M[n]? with
  |some (.L xs)=>match nj (B xs) i with
   |some j=>.ok .Z (M.set n<|.L<|xs.set j v)|none=>.bad
  |_=>.bad):=λ_ _=>rfl
def Jp(ds:c9)(M:b3):R3 D:=match ds with
 |[.int i]=>.ok (.int i) M|[.bl b]=>.ok (.int<|if b then 1 else 0) M|_=>.bad
@[simp] theorem AfL:∀i,Jp ([.int i]) M= .ok (.int i) M:=λ_=>rfl
@[simp] theorem AfM:∀b,Jp ([.bl b]) M= .ok (.int<|if b then 1 else 0) M:=λ_=>rfl
def oG:c9->Option (List Int)
 |[]=>O []|.int i::r=>(oG r).map (i:: ·)|_::_=>Yj
def aW:S3:=λenv M=>.nx env M
def Tx:S3:=λ_ _=>.bad
def Zt(f g:S3):S3:=λenv M=>match f env M with
 | .nx env' M'=>g env' M'|o=>o
def aG(c:E3)(f g:S3):S3:=λenv M=>match c env M with
 | .ok (.bl true) M1=>f env M1|.ok (.bl false) M1=>g env M1|.exc x M1=>.exc x M1|_=>.bad
def aM(f:E3):S3:=λenv M=>match f env M with
 | .ok d M1=>.rt d M1|.exc x M1=>.exc x M1|.bad=>.bad
def bC(f:E3):S3:=λenv M=>match f env M with
 | .ok _ M1=>.nx env M1|.exc x M1=>.exc x M1|.bad=>.bad
def aC(i:Nat)(f:E3):S3:=λenv M=>match f env M with
 | .ok d M1=>.nx (env.set i<|O d) M1|.exc x M1=>.exc x M1|.bad=>.bad
def vA(o i f:E3):S3:=bC<|e3 WT f o i
def WW:S3:=λenv M=>.bk env M
abbrev G3:=D->bO->Option bO
@[simp] def cV(i:Nat):G3:=λd env=>O<|env.set i<|O d
def bindAll:b9->c9->bO->Option bO
 |[],[],env=>O env|i::is,d::ds,env=>bindAll is ds (env.set i<|O d)|_,_,_=>Yj
@[simp] theorem Jq:∀env,bindAll ([]) ([]) (env)=O env:=λ_=>rfl
@[simp] theorem Jr:∀i is d ds env,bindAll (i::is) (d::ds) (env)=bindAll is ds (env.set i<|O d):=λ_ _ _ _ _=>rfl
@[simp] def oH(is:b9):G3:=λd env=>match d with
 | .U ds=>bindAll is ds env|_=>Yj
structure ir where
 items:c9
 lock:Option Nat
abbrev I3:=bO->b3->R3 ir
section
local instance (priority:=100000) Afo (p:Prop):Decidable p:=Yz p
@[simp] def eG(f:E3):I3:=λenv M=>(f env M).bind λa M1=>match a with
 | .U ds=>.ok ⟨ds,Yj⟩ M1|.bB ds=>.ok ⟨ds,Yj⟩ M1|.str x=>if x.length<=SZ then .ok ⟨x.map λc=>.str [c],Yj⟩ M1 else .bad|.ref n=>match M1[n]? with
  |some (.L ds)=>.ok ⟨ds,O n⟩ M1|_=>.bad
 |_=>.bad
end
def lW(lo:Int)(n:Nat):c9:=(jO n).map λ(k:Nat)=>D.int<|lo+(k:Int)
section
local instance (priority:=100000) Afp (p:Prop):Decidable p:=Yz p
@[simp] def ud(f:E3):I3:=λenv M=>(f env M).bind λa M1=>match a with
 | .int j=>if j<=1000000/\ -1000000<=j then .ok ⟨lW 0 j.toNat,Yj⟩ M1 else .bad|_=>.bad
end
def locked(it:ir)(M:b3):Bool:=match it.lock with
 |none=>true|some n=>decide<|M[n]?=O (.L it.items)
def iz(it:ir)(g:G3)(body:S3):c9->bO->b3->O3
 |[],env,M=>if locked it M then .nx env M else .bad|d::ds,env,M=>if locked it M then match g d env with
  |none=>.bad|some eY=>match body eY M with
   | .nx e M'=>iz it g body ds e M'|.ct e M'=>iz it g body ds e M'|.bk e M'=>.nx e M'|o=>o
  else .bad
def w6{g:G3}{body:S3}:iz it g body [] env M=if locked it M then .nx env M else .bad:=rfl
def rK{g:G3}{body:S3}{d:D}{ds:c9}:iz it g body (d::ds) env M=if locked it M then match g d env with
  |none=>.bad|some eY=>match body eY M with
   | .nx e M'=>iz it g body ds e M'|.ct e M'=>iz it g body ds e M'|.bk e M'=>.nx e M'|o=>o
  else .bad:=rfl
def vB(i:I3)(g:G3)(body:S3):S3:=λenv M=>match i env M with
 | .ok it M1=>iz it g body it.items env M1|.exc x M1=>.exc x M1|.bad=>.bad
def vC(c:E3)(body:S3):Nat->bO->b3->O3
 |0,_,_=>.bad|n+1,env,M=>match c env M with
  | .ok (.bl true) M1=>match body env M1 with
   | .nx e M'=>vC c body n e M'|.ct e M'=>vC c body n e M'|.bk e M'=>.nx e M'|o=>o
  | .ok (.bl false) M1=>.nx env M1|.exc x M1=>.exc x M1|_=>.bad
def Fx{c:E3}{body:S3}{n:Nat}:vC c body (n+1) env M=match c env M with
  | .ok (.bl true) M1=>match body env M1 with
   | .nx e M'=>vC c body n e M'|.ct e M'=>vC c body n e M'|.bk e M'=>.nx e M'|o=>o
  | .ok (.bl false) M1=>.nx env M1|.exc x M1=>.exc x M1|_=>.bad:=rfl
def WX(c:E3)(body:S3):S3:=vC c body 1000000
def xg:List E3->bO->b3->R3 Bool
 |[],_,M=>.ok true M|c::cs,env,M=>(c env M).bind λa M1=>match a with
  | .bl true=>xg cs env M1|.bl false=>.ok false M1|_=>.bad
def Js:xg [] env M= .ok true M:=rfl
def Jt{c:E3}{cs:List E3}:xg (c::cs) env M=(c env M).bind λa M1=>match a with
  | .bl true=>xg cs env M1|.bl false=>.ok false M1|_=>.bad:=rfl
section
local instance (priority:=100000) AdV (p:Prop):Decidable p:=Yz p
def jR(it:ir)(g:G3)(ifs:List E3)(elt:E3)(n:Nat):c9->bO->b3->R3 D
 |[],_,M=>if locked it M then .ok (.ref n) M else .bad|d::ds,env,M=>if locked it M then match g d env with
  |none=>.bad|some eY=>(xg ifs eY M).bind λb M1=>if b then(elt eY M1).bind λe M2=>match M2[n]? with
    |some (.L x)=>if x.length<SZ then jR it g ifs elt n ds eY (M2.set n<|.L<|x++[e])else .bad|_=>.bad
   else jR it g ifs elt n ds eY M1
  else .bad
def WY{g:G3}{ifs:List E3}{elt:E3}{n:Nat}:jR it g ifs elt n [] env M=if locked it M then .ok (.ref n) M else .bad:=rfl
def Qd{g:G3}{ifs:List E3}{elt:E3}{n:Nat}{d:D}{ds:c9}:jR it g ifs elt n (d::ds) env M=if locked it M then match g d env with
  |none=>.bad|some eY=>(xg ifs eY M).bind λb M1=>if b then(elt eY M1).bind λe M2=>match M2[n]? with
    |some (.L x)=>if x.length<SZ then jR it g ifs elt n ds eY (M2.set n<|.L<|x++[e])else .bad|_=>.bad
   else jR it g ifs elt n ds eY M1
  else .bad:=rfl
end
def gU(i:I3)(own:Nat)(g:G3)(ifs:List E3)(elt:E3):E3:=λenv M=>(i env M).bind λit M1=>jR it g ifs elt (B M1) it.items (env++Yq own Yj)<|M1++[.L []]
def zq(n:Nat):MO->Bool
 | .L xs=>eN n xs|.qq d5=>eN n (d5.map (·.2))|.dY d5=>eN n (d5.map (·.2))|.ins _ fs=>eN n<|fs.map (·.2)
def gj(M:b3)(d:D)(M':b3):R3 D:=if below (B M) d&&(decide (M'.take (B M)=M)|| (M'.take<|B M).all (zq<|B M))then .ok d (M'.take<|B M)else .ok d M'
def cR(ps n:Nat)(body:S3):F3:=λds M=>if B ds=ps then match body (ds.map O++Yq (n-ps) Yj) M with
  | .nx _ M'=>gj M .Z M'|.rt d M'=>gj M d M'|.exc x M'=>.exc x M'|_=>.bad
 else .bad
end
end L3
namespace L3
variable{i n:Nat}
def Zrx{it:ir}{elt:E3}{R:D->D->Prop}{env0:bO}:∀(ds:c9) (acc:c9) (env:bO) (M:b3),(∀d,env.set i (O d)=env0.set i (O d)) ->
  (∀d∈ds,∀x,∃e,elt (env0.set i<|O d) (M.set n<|.L x)= .ok e (M.set n<|.L x)/\R d e)->(∀x,locked it (M.set n<|.L x)=true)->M[n]?=O (.L acc)->B acc+B ds<=SZ ->
  ∃es,B es=B ds/\(∀(j:Nat) d e,ds[j]?=O d->es[j]?=O e->R d e)/\jR it (cV i) [] elt n ds env M= .ok (.ref n) (M.set n<|.L<|acc++es):=by
 intro ds
 induction ds with
 | nil=>
  intro acc env M _ _ hl hM _;have e:M.set n (.L acc)=M:=by
   apply Eo;intro j;by_cases hj:j=n
   .subst hj;rw[Y4 (Yg.mp hM).1,hM]
   .rw[Ys<|cu hj]
  have xf:=hl acc;rw[e]at xf;exact⟨[],rfl,λj d e h=>by simp at h,by simp only[WY,Qd,xf,if_true,iD,e]⟩
 | cons d ds ih=>
  intro acc env M he hf hl hM hz;have hn:n<B M:=(Yg.mp hM).1;have e:M.set n (.L acc)=M:=by
   apply Eo;intro j;by_cases hj:j=n
   .subst hj;rw[Y4 hn,hM]
   .rw[Ys<|cu hj]
  have xf:=hl acc;rw[e]at xf;let⟨v,TB,hR⟩:=hf d Ye acc;rw[e]at TB;have AQ:B acc<SZ:=by simp at hz |-;omega
  let⟨es,le,re,h⟩:=ih (acc++[v]) (env0.set i<|O d) (M.set n<|.L<|acc++[v]) (λd'=>by rw[Ie]) (λd' vj x=>by rw[Ie];exact hf d' (Yf _ vj) x) (λx=>by rw[Ie];exact hl x) (by rw[Y4 hn]) (by simp at hz |-;omega);refine⟨v::es,by simp[le],λj d' e' h1 h2=>?_,?_⟩
  .cases j with
   |zero=>simp at h1 h2;subst h1 h2;exact hR|succ j=>exact re j d' e' (by simpa using h1) (by simpa using h2)
  .simp only[Qd,xf,if_true,cV,he d,Js,Jt,R3.Ady,TB,hM,AQ];rw[h,Ie];simp
variable{env env':bO}{M M':b3}
def Zi{f g:S3}(h:f env M= .nx env' M'):Zt f g env M=g env' M':=by rw[Zt,h]
variable{d:D}
def iK{f g:S3}(h:f env M= .rt d M'):Zt f g env M= .rt d M':=by rw[Zt,h]
def cO{c:E3}{f g:S3}(h:c env M= .ok (.bl true) M'):aG c f g env M=f env M':=by rw[aG,h]
def mz{c:E3}{f g:S3}(h:c env M= .ok (.bl false) M'):aG c f g env M=g env M':=by rw[aG,h]
variable{f:E3}
def b7(h:f env M= .ok d M'):aM f env M= .rt d M':=by rw[aM,h]
def Zq(h:f env M= .ok d M')(he:env.set i (O d)=env':=by first|(dsimp only[qx,qy]<;>exact rfl)|exact rfl):aC i f env M= .nx env' M':=by rw[aC,h];simp only[he]
def cZ{c:E3}{f:S3}(h:c env M= .ok (.bl false) M'):aG c f aW env M= .nx env M':=by rw[aG,h];rfl
def uf(h:f env M= .ok d M'):bC f env M= .nx env M':=by rw[bC,h]
def BP{i:I3}{g:G3}{u:S3}{it:ir}(h:i env M= .ok it M'):vB i g u env M=iz it g u it.items env M':=by rw[vB,h]
def W2{i:I3}{own:Nat}{g:G3}{ts:List E3}{it:ir}(h:i env M= .ok it M'):gU i own g ts f env M=jR it g ts f (B M') it.items (env++Yq own Yj) (M'++[.L []]):=by rw[gU,h];rfl
variable{body:S3}{ds:c9}
def jT{ps:Nat}(h:body env M= .rt d M')(hl:B ds=ps:=by rfl)(he:ds.map O++Yq (n-ps) Yj=env:=by rfl):cR ps n body ds M=gj M d M':=by rw[cR,c_ hl,he,h]
def Ju{ps:Nat}(h:body env M= .nx env' M')(hl:B ds=ps:=by rfl)(he:ds.map O++Yq (n-ps) Yj=env:=by rfl):cR ps n body ds M=gj M .Z M':=by rw[cR,c_ hl,he,h]
def Zs6{G:b3}(h:below (B M) d=true):gj M d (M++G)= .ok d M:=by simp[gj,h]
def TC(h:below (B M) d=true):gj M d M= .ok d M:=by simp[gj,h]
variable{α:Type}
def Zm(M:List α)(x:α)(xs:List α):(M++x::xs)[B M]?=O x:=by simp
def qK(M xs:List α)(k:Nat):(M++xs)[B M+k]?=xs[k]?:=by rw[uW<|iG _ _];congr 1;exact fY b5 b5
def Qe(M xs:List α)(k:Nat)(o:α):(M++xs).set (B M+k) o=M++xs.set k o:=by rw[List.set_append_right _ _<|iG _ _];congr 2;exact fY b5 b5
def Zj{M:List α}{o:α}(h:M[n]?=O o)(xs:List α):(M++xs)[n]?=O o:=by rw[Yk (Yg.mp h).1,h]
def cP(xs:List α)(k:Nat):iY xs (k:Int)=xs[k]?:=by
 unfold iY nj;rw[c_<|Oj k];by_cases h:k<xs.length
 .rw[c_<|Vj.2 h];simp
 .rw[d4<|by exactλz=>by omega];simp at h |-;exact h
@[simp] theorem Zyy(xs:List α)(k:Nat):iY xs (k:Int)=xs[k]?:=cP xs k
@[simp] theorem Zzx(xs:List α)(n:Nat):iY xs (no_index (Ir n:Int))=xs[(Ir n:Nat)]?:=cP xs n
@[simp] theorem ZyF(xs:List α):iY xs (-1)=xs.getLast?:=by
 unfold iY nj;rw[d4 aaA,List.getLast?_eq_getElem?];by_cases h:0<xs.length
 .rw[c_ b5];simp only[Ic];congr 1;exact fY b5 b5
 .have:xs=[]:=by simpa using h
  subst this;rfl
def TH(n k:Nat):nj n (k:Int)=if k<n then O k else Yj:=by
 unfold nj;rw[c_<|Oj k];by_cases h:k<n
 .rw[c_<|Vj.2 h,c_ h];simp
 .rw[d4 (by exactλz=>by omega),d4 h]
@[simp] theorem ZyX(n k:Nat):nj n (k:Int)=if k<n then O k else Yj:=TH n k
@[simp] theorem AfN(m n:Nat):nj m (no_index (Ir n:Int))=if(Ir n:Nat)<m then O (Ir n:Nat)else Yj:=TH m n
def getD_last(xs:List α)(x:α):iY (xs++[x]) (-1)=O x:=by
 unfold iY nj;rw[d4 aaA,c_ r0];have:(-1+((xs++[x]).length:Int)).toNat=B xs:=by simp;exact fY b5 b5
 simp only[Ic,this];simp
def ZsE(xs:List α):cutD xs Yj (O<|-1)=xs.dropLast:=by unfold cutD aR;simp only[Ib];rw[c_ aaA,Uq];congr 1;omega
def Zvx(xs:List α)(k:Nat)(h:B xs<=k):cutD xs Yj (O (k:Int))=xs:=by unfold cutD aR;simp only[Ib];rw[d4 (by exactλz=>by omega),tL r0]
inductive Row where
 |put (a:Nat) (n:Int)|add (a b c:Nat)|sub (a b c:Nat)|more (a b c:Nat)|get (a b:Nat)|set (a b:Nat)|Ap (k:Nat)|As (a k:Nat)|tell (a:Nat)|halt
 deriving Inhabited
def Row.ok(many:Nat):Row->Prop
 | .put a _=>a<8|.add a b c=>a<8/\b<8/\c<8|.sub a b c=>a<8/\b<8/\c<8|.more a b c=>a<8/\b<8/\c<8
 | .get a b=>a<8/\b<8|.set a b=>a<8/\b<8|.Ap k=>k<many|.As a k=>a<8/\k<many
 | .tell a=>a<8|.halt=>True
def Row.tells(bs:List Int):Row->Option Int
 | .tell a=>bs[a]?|_=>Yj
def Row.uP:Row->Bool
 | .halt=>true|_=>false
variable{a:Nat}
@[simp] theorem ZyD{n:Int}{bs:List Int}:(Row.put a n).tells bs=Yj:=rfl
@[simp] theorem Zym{n:Int}:(Row.put a n).uP=false:=rfl
variable{c:Nat}
@[simp] theorem ZyB{b:Nat}{bs:List Int}:(Row.add a b c).tells bs=Yj:=rfl
@[simp] theorem Zx6{b:Nat}:(Row.add a b c).uP=false:=rfl
@[simp] theorem ZyG{b:Nat}{bs:List Int}:(Row.sub a b c).tells bs=Yj:=rfl
@[simp] theorem Zyg{b:Nat}:(Row.sub a b c).uP=false:=rfl
@[simp] theorem Zwp{b:Nat}{bs:List Int}:(Row.more a b c).tells bs=Yj:=rfl
@[simp] theorem ZvN{b:Nat}:(Row.more a b c).uP=false:=rfl
@[simp] theorem ZyE{b:Nat}{bs:List Int}:(Row.get a b).tells bs=Yj:=rfl
@[simp] theorem Zwz{b:Nat}:(Row.get a b).uP=false:=rfl
@[simp] theorem Zyz{b:Nat}{bs:List Int}:(Row.set a b).tells bs=Yj:=rfl
@[simp] theorem ZxO{b:Nat}:(Row.set a b).uP=false:=rfl
@[simp] theorem ZxK{k:Nat}{bs:List Int}:(Row.Ap k).tells bs=Yj:=rfl
@[simp] theorem Zwa{k:Nat}:(Row.Ap k).uP=false:=rfl
@[simp] theorem ZxE{k:Nat}{bs:List Int}:(Row.As a k).tells bs=Yj:=rfl
@[simp] theorem ZvR{k:Nat}:(Row.As a k).uP=false:=rfl
@[simp] theorem Zye{bs:List Int}:(Row.tell a).tells bs=bs[a]?:=rfl
@[simp] theorem Zwb:(Row.tell a).uP=false:=rfl
@[simp] theorem ZwC{bs:List Int}:(Row.halt).tells bs=Yj:=rfl
@[simp] theorem ZvS :(Row.halt).uP=true:=rfl
mutual
theorem ZqT:∀(n:Nat) (d:D),fO n d=true->fP d d=true
 |_,.Z,_=>rfl|_,.bl b,_=>beq_self_eq_true b|_,.int b,_=>beq_self_eq_true b|_,.str b,_=>beq_self_eq_true b
 |0,.U _,h=>ft h|n+1,.U ds,h=>TK n ds (jh.mp h)|n,.bB _,h=>by cases n<;>exact ft h|n,.ref _,h=>by cases n<;>exact ft h
theorem TK:∀(n:Nat) (ds:c9),(∀d∈ds,fO n d=true)->jQ ds ds=true
 |_,[],_=>rfl|n,d::ds,h=>by simp only[ZwG,WK,gO];exact⟨ZqT n d<|h d Ye,TK n ds λx hx=>h x<|Yf _ hx⟩
end
def Rt(o:O3)(d:D):Prop:=∃M',o= .rt d M'
def Rt.set{g:S3}{r:D}(h:f env M= .ok d M')(k:Rt (g env' M') r)(he:env.set i (O d)=env':=by first|(dsimp only[qx,qy]<;>exact rfl)|exact rfl):Rt (Zt (aC i f) g env M) r:=by rwa[Rt,Zi (Zq h he)]
def Rt.expr{g:S3}{r:D}(h:f env M= .ok d M')(k:Rt (g env M') r):Rt (Zt (bC f) g env M) r:=by rwa[Rt,Zi<|uf h]
def Rt.skip{c:E3}{u g:S3}{r:D}(h:c env M= .ok (.bl false) M')(k:Rt (g env M') r):Rt (Zt (aG c u aW) g env M) r:=by rwa[Rt,Zi<|cZ h]
def Rt.loop{i:I3}{t:G3}{u g:S3}{M M' M1:b3}{it:ir}{r:D}(h:i env M= .ok it M1)(hl:iz it t u it.items env M1= .nx env' M')(k:Rt (g env' M') r):Rt (Zt (vB i t u) g env M) r:=by rwa[Rt,Zi<|(BP h).trans hl]
def Rt.step{f g:S3}{r:D}(h:f env M= .nx env' M')(k:Rt (g env' M') r):Rt (Zt f g env M) r:=by rwa[Rt,Zi h]
def Rt.ret(h:f env M= .ok d M'):Rt (aM f env M) d:=⟨M',b7 h⟩
def Rt.law{ps:Nat}{b:Bool}(h:Rt (body env []) (.bl b))(hl:B ds=ps:=by rfl)(he:ds.map O++Yq (n-ps) Yj=env:=by rfl):∃M',cR ps n body ds []= .ok (.bl b) M':=by let⟨M',h⟩:=h;exact⟨_,(jT h hl he).trans<|by rw[gj,c_<|by simp[below]]⟩
def Rt.pure{ps:Nat}{G:b3}(h:body env M= .rt d (M++G))(hd:below (B M) d=true)(hl:B ds=ps:=by rfl)(he:ds.map O++Yq (n-ps) Yj=env:=by rfl):cR ps n body ds M= .ok d M:=(jT h hl he).trans<|Zs6 hd
def Zs0{β:Type}(f:α->β)(xs:List α)(lo hi:Option Int):cutD (xs.map f) lo hi=(cutD xs lo hi).map f:=by simp[cutD]
variable{g:E3}
def Zf{op:D->D->b3->R3 D}{M M1 M2 M3:b3}{a b d:D}(h1:f env M= .ok a M1)(h2:g env M1= .ok b M2)(h3:op a b M2= .ok d M3):e2 op f g env M= .ok d M3:=by simp only[e2,h1,h2,h3,R3.bind]
theorem _root_.yz{p:Prop}(h:p:=by exact Zf J J J):p:=h
variable{F:F3}
def dD{M M1 M2:b3}{a:D}(h1:f env M= .ok a M1)(h2:F [a] M1= .ok d M2):aJ F (Za f Ze) env M= .ok d M2:=by simp only[aJ,Za,Ze,h1,h2,R3.bind]
def Fy{M M1 M2 M3:b3}{a b d:D}(h1:f env M= .ok a M1)(h2:g env M1= .ok b M2)(h3:F [a,b] M2= .ok d M3):aJ F (Za f<|Za g Ze) env M= .ok d M3:=by simp only[aJ,Za,Ze,h1,h2,h3,R3.bind]
def W3{h:E3}{M M1 M2 M3 M4:b3}{a b c d:D}(h1:f env M= .ok a M1)(h2:g env M1= .ok b M2)(h3:h env M2= .ok c M3)(h4:F [a,b,c] M3= .ok d M4):aJ F (Za f<|Za g<|Za h Ze) env M= .ok d M4:=by simp only[aJ,Za,Ze,h1,h2,h3,h4,R3.bind]
@[simp] theorem AfO(a b:vp):(a==b)=decide (a=b):=by cases a<;>cases b<;>rfl
def Fz{f g h k:E3}{M M1 M2 M3 M4 M5:b3}{a b c d e:D}(h1:f env M= .ok a M1)(h2:g env M1= .ok b M2)(h3:h env M2= .ok c M3)(h4:k env M3= .ok d M4)(h5:F [a,b,c,d] M4= .ok e M5):aJ F (Za f<|Za g<|Za h<|Za k Ze) env M= .ok e M5:=by simp only[aJ,Za,Ze,h1,h2,h3,h4,h5,R3.bind]
def bR{b:c9->b3->R3 D}{M M1 M2:b3}{a:D}(h1:f env M= .ok a M1)(h2:b [a] M1= .ok d M2):aD b (Za f Ze) env M= .ok d M2:=by simp only[aD,Za,Ze,h1,h2,R3.bind]
def dF{op:D->b3->R3 D}{M M1 M2:b3}{a:D}(h1:f env M= .ok a M1)(h2:op a M1= .ok d M2):e1 op f env M= .ok d M2:=by simp only[e1,h1,h2,R3.bind]
theorem _root_.Au{p:Prop}(h:p:=by exact dF J<|Zrp 1):p:=h
def Zo{g:d_}{M M1 M2:b3}(h1:f env M= .ok d M1)(h2:g env M1= .ok ds M2):Za f g env M= .ok (d::ds) M2:=by simp only[Za,h1,h2,R3.bind]
theorem _root_.yA{p:Prop}(h:p:=by exact Zo J J):p:=h
def qL{g:d_}(h:g env M= .ok ds M')(hl:decide (B ds<=100)=true):ji g env M= .ok (.U ds) M':=by have:=of_decide_eq_true hl;simp only[ji,h,R3.bind];rw[c_<|Yi this aaA]
variable{xs:c9}
def jU(h:M[n]?=O (.L xs)):aV [.ref n] M= .ok (.int (B xs:Int)) M:=by simp only[Bx,BJ,BK,t_,h]
def vD(h:M[n]?=O (.L xs)):iy [.ref n] M= .ok (.U xs) M:=by simp only[Ta,Tb,Fq,h]
def dO{i:Int}(h:M[n]?=O (.L xs))(hd:iY xs i=O d):Zn (.ref n) (.int i) M= .ok d M:=by simp only[SU,SV,WP,SW,h,hd]
def zr{i:Int}(hd:iY xs i=O d):Zn (.U xs) (.int i) M= .ok d M:=by simp only[SU,SV,WP,SW,hd]
def Jv{a b:Int}(h:a<=b):pI (.int a) (.int b) M= .ok (.bl true) M:=by simp only[Qc,j2 h]
def AeB{a b:Int}(h:¬a<=b):pI (.int a) (.int b) M= .ok (.bl false) M:=by simp only[Qc,j3 h]
def nq{a b:Int}(h:a=b):aN (.int a) (.int b) M= .ok (.bl true) M:=by simp only[aN,Bt,rH,vy,Ji,Jj,j2 h]
def pK{a b:Int}(h:¬a=b):aN (.int a) (.int b) M= .ok (.bl false) M:=by simp only[aN,Bt,rH,vy,Ji,Jj,j3 h]
def AeC{a b:b9}(h:¬a=b):iJ (.str a) (.str b) M= .ok (.bl true) M:=by simp only[iJ,Bt,rH,vy,Ji,Jj,j3 h];rfl
def AeD{a b:b9}(h:a=b):iJ (.str a) (.str b) M= .ok (.bl false) M:=by simp only[iJ,Bt,rH,vy,Ji,Jj,j2 h];rfl
def cg{i j:Int}(h:0<j):Zx (.int i) (.int j) M= .ok (.int<|i % j) M:=by simp only[SI,c_ h]
theorem _root_.AR{p:Prop}(h:p:=by exact Zf J J<|cg aaA):p:=h
theorem _root_.DL{p:Prop}(h:p:=by exact Zf (Zf J J J) J<|cg aaA):p:=h
def iZ{M M1:b3}(h1:f env M= .ok (.bl false) M1):dh f g env M=g env M1:=by simp only[dh,h1,R3.bind]
def pM{M M1:b3}(h1:f env M= .ok (.bl true) M1):dh f g env M= .ok (.bl true) M1:=by simp only[dh,h1,R3.bind]
def jV{M M1:b3}(h1:f env M= .ok (.bl true) M1):cN f g env M=g env M1:=by simp only[cN,h1,R3.bind]
def pN{M M1:b3}(h1:f env M= .ok (.bl false) M1):cN f g env M= .ok (.bl false) M1:=by simp only[cN,h1,R3.bind]
def zu{c:E3}{M M1:b3}(h1:c env M= .ok (.bl true) M1):j5 c f g env M=f env M1:=by simp only[j5,h1,R3.bind]
def xj{c:E3}{M M1:b3}(h1:c env M= .ok (.bl false) M1):j5 c f g env M=g env M1:=by simp only[j5,h1,R3.bind]
def ug{enc:α->D}{h:α->D}{own:Nat}{it:I3}{elt:E3}{M M1:b3}{lock:Option Nat}{as:List α}(hi:it env M= .ok ⟨as.map enc,lock⟩ M1)(SJ:∀n,lock=O n->M1[n]?=O (.L<|as.map enc))(he:∀a∈as,∀M,elt ((env++Yq own Yj).set i<|O<|enc a) M= .ok (h a) M)(hz:B as<=100000):gU it own (cV i) [] elt env M= .ok (.ref<|B M1) (M1++[.L<|as.map h]):=by
 rw [W2 hi];let⟨es,le,re,hh⟩:=Zrx (it:=⟨as.map enc,lock⟩) (i:=i) (n:=B M1) (elt:=elt) (R:=λd e=>∀a∈as,d=enc a->e=h a) (env0:=env++Yq own Yj) (as.map enc) [] (env++Yq own Yj) (M1++[.L []]) (λ_=>rfl)
  (λd hd x=>by let⟨a,ha,rfl⟩:=kZ.mp hd;refine⟨h a,he a ha _,λb hb e=>?_⟩;have h1:=he a ha [];have h2:=he b hb [];rw[e,h2]at h1;injection h1 with h1 _;exact h1.symm)
  (λx=>by
   cases lock with
   |none=>rfl|some n=>have hn:=SJ n J;have j1:=(Yg.mp hn).1;simp only[locked,decide_eq_true_eq];rw[Ys<|Bb j1,Yk j1,hn]) i9 r0
 rw [show(⟨as.map enc,lock⟩:ir).items=as.map enc from rfl,hh];have:es=as.map h:=by
  apply Eo;intro j;rw[jg];cases ha:as[j]? with
  |none=>
   have:B as<=j:=by simpa using ha
   simp[le];exact this
  | some a=>
   have hj:j<B es:=by have:=(Yg.mp ha).1;simpa[le]using this
   have h2:=re j (enc a) es[j] (by simp[ha]) (by simp[hj]) a (Ay ha) J;rw[Y0 hj,h2];rfl
 rw[this];simp
def Zuj(cs:List (Int×Int))(n v:Int):List (Int×Int):=cs.filter (λc=>decide<|c.1<n)++(if v≠0 then[(n,v)]else[])++cs.filter (λc=>decide<|n<c.1)
def Row.cells(bs:List Int)(cs:List (Int×Int)):Row->List (Int×Int)
 | .set a b=>Zuj cs (bs.getD a 0) (bs.getD b 0)|_=>cs
def i_(i:Int):b9:=(PySem.Str.ofString<|yV i).cps.toList
noncomputable section
local instance (priority:=100000) AfP (p:Prop):Decidable p:=Yz p
def BR(ds:c9)(M:b3):R3 D:=match ds with
 |[.int i]=>if i.natAbs.log2<1920 then .ok (.str<|i_ i) M else .bad|[.str x]=>.ok (.str x) M|_=>.bad
@[simp] theorem TL:∀i,BR ([.int i]) M=(if i.natAbs.log2<1920 then .ok (.str<|i_ i) M else .bad):=λ_=>rfl
@[simp] theorem ZvF:∀x,BR ([.str x]) M= .ok (.str x) M:=λ_=>rfl
def jB:c9->Option d6
 |[]=>O []|.str x::ds=>(jB ds).map (x:: ·)|_=>Yj
def glue(sep:b9):d6->b9
 |[]=>[]|[x]=>x|x::y::xs=>x++sep++glue sep (y::xs)
def j7(sep:b9)(ts:d6):Nat:=(ts.map λt=>B t+B sep).sum
def nu(o:D)(ds:c9)(M:b3):R3 D:=match o,ds with
 | .str sep,[.ref n]=>match M[n]? with
  |some (.L x)=>match jB x with
   |some ts=>if j7 sep ts<=SZ then .ok (.str<|glue sep ts) M else .bad|none=>.bad
  |_=>.bad
 |_,_=>.bad
@[simp] theorem W4:∀sep n,nu (.str sep) ([.ref n]) M=(match M[n]? with
  |some (.L x)=>match jB x with
   |some ts=>if j7 sep ts<=SZ then .ok (.str<|glue sep ts) M else .bad|none=>.bad
  |_=>.bad):=λ_ _=>rfl
def pO(x y:b9):d6:=(OG ⟨kb x⟩ ⟨kb y⟩).map λt=>t.cps.toList
def xq(o:D)(ds:c9)(M:b3):R3 D:=match o,ds with
 | .str x,[.str y]=>if 0<y.length/\x.length+2<=SZ then alloc (.L<|(pO x y).map D.str) M else .bad|_,_=>.bad
@[simp] theorem TM:∀x y,xq (.str x) ([.str y]) M=(if 0<y.length/\x.length+2<=SZ then alloc (.L<|(pO x y).map D.str) M else .bad):=λ_ _=>rfl
def vG(ds:c9)(M:b3):R3 D:=match ds with
 |[.str x]=>match MT ⟨kb x⟩with
  |some n=>if x.length<=640 then .ok (.int n) M else .bad|none=>.bad
 |ds=>Jp ds M
@[simp] theorem ZsF:∀x,vG ([.str x]) M=(match MT ⟨kb x⟩with
  |some n=>if x.length<=640 then .ok (.int n) M else .bad|none=>.bad):=λ_=>rfl
@[simp] theorem Zru:∀i,vG [.int i] M= .ok (.int i) M:=λ_=>rfl
@[simp] theorem Zzz:∀b,vG [.bl b] M=Jp [.bl b] M:=λ_=>rfl
end
noncomputable section
def AfQ(f:E3)(g:G3):S3:=λenv M=>match f env M with
 | .ok d M1=>match g d env with
  |some eY=>.nx eY M1|none=>.bad
 | .exc x M1=>.exc x M1|.bad=>.bad
structure Jw where
 items:c9
 lk:List (Nat×c9)
def lA(lk:List (Nat×c9))(M:b3):Bool:=lk.all λq=>decide<|M[q.1]?=O (.L q.2)
abbrev BV:=bO->b3->R3 Jw
def oJ:Nat->c9->c9
 |_,[]=>[]|k,d::ds=>.U [.int k,d]::oJ (k+1) ds
@[simp] def W5(f:E3):BV:=λenv M=>(f env M).bind λa M1=>match a with
 | .U ds=>.ok ⟨oJ 0 ds,[]⟩ M1|.ref n=>match M1[n]? with
  |some (.L ds)=>.ok ⟨oJ 0 ds,[(n,ds)]⟩ M1|_=>.bad
 |_=>.bad
def ZyW(a b:D)(M:b3):R3 D:=match a,b with
 | .U [.int i,.int j],.U [.int k,.int l]=>.ok (.bl<|decide (i<k)|| (decide (i=k)&&decide (j<=l))) M|_,_=>.bad
@[simp] theorem ZyL:∀i j k l,ZyW (.U [.int i,.int j]) (.U [.int k,.int l]) M= .ok (.bl<|decide (i<k)|| (decide (i=k)&&decide (j<=l))) M:=λ_ _ _ _=>rfl
def xr(f:E3)(is:b9):S3:=λenv M=>match f env M with
 | .ok (.ref n) M1=>(match M1[n]? with
  |some (.L ds)=>(match bindAll is ds env with
   |some eY=>.nx eY M1|none=>.bad)
  |_=>.bad)
 |_=>.bad
def Zzb(ds:c9)(M:b3):R3 D:=match ds with
 |[.int i,.int j]=>.ok (.int<|if j>i then j else i) M|_=>.bad
@[simp] theorem ZzB:∀i j,Zzb ([.int i,.int j]) M= .ok (.int<|if j>i then j else i) M:=λ_ _=>rfl
def zx(ds:c9)(M:b3):R3 D:=match ds with
 |[.int i,.int j]=>.ok (.int<|if j<i then j else i) M|_=>.bad
@[simp] theorem Zs7:∀i j,zx ([.int i,.int j]) M= .ok (.int<|if j<i then j else i) M:=λ_ _=>rfl
def BW(a b:D)(M:b3):R3 D:=match b with
 | .ref n=>match M[n]? with
  |some (.L ys)=>if e_ a&&ys.all e_ then .ok (.bl<|ys.any λy=>fP y a) M else .bad|_=>.bad
 |_=>.bad
@[simp] theorem ZsQ{a:D}:∀n,BW a (.ref n) M=(match M[n]? with
  |some (.L ys)=>if e_ a&&ys.all e_ then .ok (.bl<|ys.any λy=>fP y a) M else .bad|_=>.bad):=λ_=>rfl
theorem Qf:∀(k:Nat) (ds:c9) (i:Nat),(oJ k ds)[i]?=(ds[i]?).map λd=>.U [.int ((k+i:Nat):Int),d]
 |_,[],_=>by simp[oJ]|k,d::ds,0=>by simp[oJ]|k,d::ds,i+1=>by simp only[oJ,Nv,Qf (k+1) ds i];rw[show k+1+i=k+(i+1)by exact fY b5 b5]
theorem Qg:∀(k:Nat) (ds:c9),(oJ k ds).length=ds.length
 |_,[]=>rfl|k,d::ds=>by simp[oJ,Qg (k+1) ds]
end
noncomputable section
def TN:c9->c9->c9
 |a::x,b::y=>.U [a,b]::TN x y|_,_=>[]
@[simp] def AfR(f g:E3):BV:=λenv M=>(f env M).bind λa M1=>(g env M1).bind λb M2=>match a,b with
 | .ref n,.ref m=>match M2[n]?,M2[m]? with
  |some (.L x),O (.L y)=>.ok ⟨TN x y,[(n,x),(m,y)]⟩ M2|_,_=>.bad
 |_,_=>.bad
section
local instance (priority:=100000) AfS (p:Prop):Decidable p:=Yz p
def lB(lk:List (Nat×c9))(g:G3)(ifs:List E3)(elt:E3)(n:Nat):c9->bO->b3->R3 D
 |[],_,M=>if lA lk M then .ok (.ref n) M else .bad|d::ds,env,M=>if lA lk M then match g d env with
  |none=>.bad|some eY=>(xg ifs eY M).bind λb M1=>if b then(elt eY M1).bind λv M2=>match M2[n]? with
    |some (.L xs)=>if B xs<SZ then lB lk g ifs elt n ds eY (M2.set n<|.L<|xs++[v])else .bad|_=>.bad
   else lB lk g ifs elt n ds eY M1
  else .bad
end
def zy(i:BV)(own:Nat)(g:G3)(ifs:List E3)(elt:E3):E3:=λenv M=>(i env M).bind λit M1=>lB it.lk g ifs elt (B M1) it.items (env++Yq own Yj)<|M1++[.L []]
section
local instance (priority:=100000) AfT (p:Prop):Decidable p:=Yz p
def rN(o:D)(ds:c9)(M:b3):R3 D:=match o,ds with
 | .ref n,[.ref m]=>match M[n]?,M[m]? with
  |some (.L x),O (.L y)=>if n≠m/\x.length+y.length<=SZ then .ok .Z (M.set n<|.L<|x++y)else .bad|_,_=>.bad
 | .ref n,[.U y]=>match M[n]? with
  |some (.L x)=>if x.length+y.length<=SZ then .ok .Z (M.set n<|.L<|x++y)else .bad|_=>.bad
 |_,_=>.bad
@[simp] theorem FJ:∀n m,rN (.ref n) ([.ref m]) M=(match M[n]?,M[m]? with
  |some (.L x),O (.L y)=>if n≠m/\x.length+y.length<=SZ then .ok .Z (M.set n<|.L<|x++y)else .bad|_,_=>.bad):=λ_ _=>rfl
@[simp] theorem FN:∀n y,rN (.ref n) ([.U y]) M=(match M[n]? with
  |some (.L x)=>if x.length+y.length<=SZ then .ok .Z (M.set n<|.L<|x++y)else .bad|_=>.bad):=λ_ _=>rfl
end
end
noncomputable section
end
def zA(f:b9)(d:D):List (b9×D)->List (b9×D)
 |[]=>[(f,d)]|(g,x)::r=>if g=f then(g,d)::r else(g,x)::zA f d r
def lC(c f:b9)(a:D)(M:b3):R3 D:=match a with
 | .ref n=>match M[n]? with
  |some (.ins c' fs)=>if c'=c then(match fs.lookup f with
   |some d=>.ok d M|none=>.bad)else .bad
  |_=>.bad
 |_=>.bad
@[simp] theorem TR{c:b9}{f:b9}:∀n,lC c f (.ref n) M=(match M[n]? with
  |some (.ins c' fs)=>if c'=c then(match fs.lookup f with
   |some d=>.ok d M|none=>.bad)else .bad
  |_=>.bad):=λ_=>rfl
def TU(c f:b9)(v a:D)(M:b3):R3 D:=match a with
 | .ref n=>match M[n]? with
  |some (.ins c' fs)=>if c'=c/\fs.length<1000 then .ok .Z (M.set n<|.ins c<|zA f v fs)else .bad|_=>.bad
 |_=>.bad
@[simp] theorem W6{c:b9}{f:b9}{v:D}:∀n,TU c f v (.ref n) M=(match M[n]? with
  |some (.ins c' fs)=>if c'=c/\fs.length<1000 then .ok .Z (M.set n<|.ins c<|zA f v fs)else .bad|_=>.bad):=λ_=>rfl
def Jx(c f:b9)(o v:E3):S3:=bC<|e2 (TU c f) v o
@[simp] def BX(c:b9)(F:F3)(g:d_):E3:=λenv M=>(g env M).bind λds M1=>match F (.ref (B M1)::ds) (M1++[.ins c []])with
 | .ok .Z M2=>.ok (.ref<|B M1) M2|_=>.bad
noncomputable section
@[simp] def pR(f:E3):E3:=λenv M=>match f env M with
 | .exc _ _=>.bad|r=>r
@[simp] def oK(f:d_):d_:=λenv M=>match f env M with
 | .exc _ _=>.bad|r=>r
def fK(f:S3):S3:=λenv M=>match f env M with
 | .exc _ _=>.bad|o=>o
def AfU(c:b9)(g:d_):S3:=λenv M=>match g env M with
 | .ok [_] M1=>.exc ⟨c,.ref<|B M1⟩ (M1++[.ins (0::c) []])|_=>.bad
def Jy(cs:d6)(j:Nat)(b h:S3):S3:=λenv M=>match b env M with
 | .exc x M'=>if cs.contains x.cls then(match h (env.set j<|O x.arg) M' with
  | .nx e' M2=>.nx (e'.set j Yj) M2|_=>.bad)else .bad
 |o=>o
def oM(yes no:d6)(d:D)(M:b3):R3 D:=match d with
 | .Z=>.ok (.bl false) M|.ref n=>match M[n]? with
  |some (.ins (0::c) _)=>if yes.contains c then .ok (.bl true) M else if no.contains c then .ok (.bl false) M else .bad|_=>.bad
 |_=>.bad
@[simp] theorem Zyl{yes no:d6}:oM yes no .Z M= .ok (.bl false) M:=rfl
@[simp] theorem W7{yes no:d6}:∀n,oM yes no (.ref n) M=(match M[n]? with
  |some (.ins (0::c) _)=>if yes.contains c then .ok (.bl true) M else if no.contains c then .ok (.bl false) M else .bad|_=>.bad):=λ_=>rfl
end
noncomputable section
def Jz(i:I3)(g:G3)(body:S3):S3:=λenv M=>match i env M with
 | .ok it M1=>iz it g body it.items env M1|_=>.bad
end
noncomputable section
abbrev Qh:=List<|b9×d6
def W8(f:E3):BV:=λenv M=>(f env M).bind λa M1=>match a with
 | .ref n=>match M1[n]? with
  |some (.L ds)=>.ok ⟨oJ 1 ds,[(n,ds)]⟩ M1|_=>.bad
 |_=>.bad
end
noncomputable section
abbrev nA:=List<|b9×Int
def cQ(x:b9):nA->Option Int
 |[]=>Yj|(k,v)::r=>if x=k then O v else cQ x r
def xu(t:nA)(d e:D)(M:b3):R3 D:=match d with
 | .str x=>match cQ x t with
  |some i=>.ok (.int i) M|none=>.ok e M
 | .int _=>.ok e M|_=>.bad
end
noncomputable section
end
noncomputable section
local instance (priority:=100000) AfV (p:Prop):Decidable p:=Yz p
end
open PySem PySem.Spec PyProof.Rows L2
abbrev St:=L2.St
def mC:SZ<=bI:=by rw[uU];decide
def rO(K:Yb)(H:Hp)(a:Yy)(xs:List V):Prop:=
 (∃o,H a=O (.cY o<|.L xs))\/
  ∃(o:aK) (b6:Array Yh) (n:Nat),K.lookup a=O o/\o.cls= .type "list" /\o.dict=Yj/\o.data= .seq b6 n/\b6.size<=bI/\Vals xs b6.toList
variable{K:Yb}{H:Hp}
def rO.sq{a:Yy}{xs:List V}(h:rO K H a xs):bV K H a xs:=by
 rcases h with⟨o,h⟩|h
 .exact .inl<|.inr ⟨o,h⟩
 .exact .inr h
mutual
def Rep(K:Yb)(H:Hp)(ι:List Yy):D->V->Prop
 | .Z,v=>v= .Z|.bl b,v=>v= .bl b|.int i,v=>v= .int i|.str x,v=>v= .str ⟨kb x⟩
 | .U ds,v=>∃a vs,v= .ref a/\dJ K H a vs/\aB K H ι ds vs|.bB ds,v=>∃a vs,v= .ref a/\rO K H a vs/\aB K H ι ds vs|.ref n,v=>∃a,ι[n]?=O a/\v= .ref a
def aB(K:Yb)(H:Hp)(ι:List Yy):c9->List V->Prop
 |[],vs=>vs=[]|d::ds,vs=>∃v ws,vs=v::ws/\Rep K H ι d v/\aB K H ι ds ws
end
structure Ext(K:Yb)(H:Hp)(ι:List Yy)(H':Hp)(ι':List Yy):Prop where
 U:∀a xs,dJ K H a xs->dJ K H' a xs
 bB:∀a xs,rO K H a xs->rO K H' a xs
 pre:∀(n:Nat) (a:Yy),ι[n]?=O a->ι'[n]?=O a
 cY:∀a o u,H a=O (.cY o u)->H' a=O (.cY o u)
variable{v:V}{vs:List V}
section
variable {K:Yb} {H H' H1 H2:Hp} {ι ι' ι1 ι2:List Yy}
def Ext.refl:Ext K H ι H ι:=⟨λ_ _ h=>h,λ_ _ h=>h,λ_ _ h=>h,λ_ _ _ h=>h⟩
def Ext.trans(a:Ext K H ι H1 ι1)(b:Ext K H1 ι1 H2 ι2):Ext K H ι H2 ι2:=⟨λx xs h=>b.U x xs<|a.U x xs h,λx xs h=>b.bB x xs<|a.bB x xs h,λn x h=>b.pre n x<|a.pre n x h,λx o u h=>b.cY x o u<|a.cY x o u h⟩
mutual
theorem Rep.mono(e:Ext K H ι H' ι'):∀{d:D} {v:V},Rep K H ι d v->Rep K H' ι' d v
 | .Z,_,h=>h|.bl _,_,h=>h|.int _,_,h=>h|.str _,_,h=>h
 | .U ds,_,h=>by let⟨a,vs,rfl,s,r⟩:=h;exact⟨a,vs,rfl,e.U _ _ s,aB.mono e (ds:=ds) r⟩|.bB ds,_,h=>by let⟨a,vs,rfl,s,r⟩:=h;exact⟨a,vs,rfl,e.bB _ _ s,aB.mono e (ds:=ds) r⟩|.ref n,_,h=>by let⟨a,s,rfl⟩:=h;exact⟨a,e.pre _ _ s,rfl⟩
theorem aB.mono(e:Ext K H ι H' ι'):∀{ds:c9} {vs:List V},aB K H ι ds vs->aB K H' ι' ds vs
 |[],_,h=>h|d::ds,_,h=>by let⟨v,ws,rfl,r,q⟩:=h;exact⟨v,ws,rfl,Rep.mono e (d:=d) r,aB.mono e (ds:=ds) q⟩
end
mutual
theorem Rep.keep(ht:∀a xs,dJ K H a xs->dJ K H' a xs)(hs:∀a xs,rO K H a xs->rO K H' a xs):∀{d:D} {v:V},Rep K H ι d v->Rep K H' ι d v
 | .Z,_,h=>h|.bl _,_,h=>h|.int _,_,h=>h|.str _,_,h=>h
 | .U ds,_,h=>by let⟨a,vs,rfl,s,r⟩:=h;exact⟨a,vs,rfl,ht _ _ s,aB.keep ht hs (ds:=ds) r⟩|.bB ds,_,h=>by let⟨a,vs,rfl,s,r⟩:=h;exact⟨a,vs,rfl,hs _ _ s,aB.keep ht hs (ds:=ds) r⟩|.ref n,_,h=>h
theorem aB.keep(ht:∀a xs,dJ K H a xs->dJ K H' a xs)(hs:∀a xs,rO K H a xs->rO K H' a xs):∀{ds:c9} {vs:List V},aB K H ι ds vs->aB K H' ι ds vs
 |[],_,h=>h|d::ds,_,h=>by let⟨v,ws,rfl,r,q⟩:=h;exact⟨v,ws,rfl,Rep.keep ht hs (d:=d) r,aB.keep ht hs (ds:=ds) q⟩
end
def aB.nil:aB K H ι [] []:=rfl
def aB.cons{d:D}{ds:c9}{v:V}{vs:List V}(h:Rep K H ι d v)(t:aB K H ι ds vs):aB K H ι (d::ds) (v::vs):=⟨v,vs,rfl,h,t⟩
def aB.nil_inv(h:aB K H ι [] vs):vs=[]:=h
def aB.cons_inv(h:aB K H ι (d::ds) vs):∃v ws,vs=v::ws/\Rep K H ι d v/\aB K H ι ds ws:=h
theorem aB.length:∀{ds:c9} {vs:List V},aB K H ι ds vs->B vs=ds.length
 |[],_,h=>by rw[h.nil_inv];rfl|d::ds,_,h=>by let⟨v,ws,rfl,_,q⟩:=h.cons_inv;exact congrArg Nat.succ q.length
theorem aB.append:∀{ds es:c9} {vs ws:List V},aB K H ι ds vs->aB K H ι es ws->aB K H ι (ds++es) (vs++ws)
 |[],_,_,_,h,q=>by rwa[h.nil_inv]|d::ds,_,_,_,h,q=>by let⟨v,us,rfl,r,t⟩:=h.cons_inv;exact aB.cons r<|t.append q
theorem aB.drop:∀{ds:c9} {vs:List V} (n:Nat),aB K H ι ds vs->aB K H ι (ds.drop n) (vs.drop n)
 |_,_,0,h=>h|[],_,n+1,h=>by rw[h.nil_inv];exact aB.nil|d::ds,_,n+1,h=>by let⟨v,us,rfl,r,t⟩:=h.cons_inv;exact t.drop n
theorem aB.take:∀{ds:c9} {vs:List V} (n:Nat),aB K H ι ds vs->aB K H ι (ds.take n) (vs.take n)
 |_,_,0,h=>aB.nil|[],_,n+1,h=>by rw[h.nil_inv];exact aB.nil|d::ds,_,n+1,h=>by let⟨v,us,rfl,r,t⟩:=h.cons_inv;exact aB.cons r<|t.take n
theorem aB.get:∀{ds:c9} {vs:List V} {i:Nat} {d:D},aB K H ι ds vs->ds[i]?=O d->∃v,vs[i]?=O v/\Rep K H ι d v
 |[],_,_,_,_,e=>by simp at e|d::ds,_,0,_,h,e=>by let⟨v,us,rfl,r,t⟩:=h.cons_inv;simp at e;subst e;exact⟨v,rfl,r⟩
 |d::ds,_,i+1,_,h,e=>by let⟨v,us,rfl,r,t⟩:=h.cons_inv;let⟨w,q,z⟩:=t.get (i:=i) (by simpa using e);exact⟨w,by simpa using q,z⟩
theorem aB.set:∀{ds:c9} {vs:List V} {d:D} {v:V} (i:Nat),aB K H ι ds vs->Rep K H ι d v->aB K H ι (ds.set i d) (vs.set i v)
 |[],_,_,_,_,h,_=>by rw[h.nil_inv];exact aB.nil|d::ds,_,_,_,0,h,q=>by let⟨v,us,rfl,r,t⟩:=h.cons_inv;exact aB.cons q t
 |d::ds,_,_,_,i+1,h,q=>by let⟨v,us,rfl,r,t⟩:=h.cons_inv;exact aB.cons r<|t.set i q
theorem aB.ints:∀(ns:List Int),aB K H ι (ns.map D.int)<|ns.map V.int
 |[]=>aB.nil|n::ns=>aB.cons J<|aB.ints ns
def Rep.kh(h:Rep K H ι .Z v):v= .Z:=h
def Rep.iW{b:Bool}(h:Rep K H ι (.bl b) v):v= .bl b:=h
def Rep.int_inv{i:Int}(h:Rep K H ι (.int i) v):v= .int i:=h
def Rep.str_inv{x:b9}(h:Rep K H ι (.str x) v):v= .str ⟨kb x⟩:=h
def Rep.kj(h:Rep K H ι (.U ds) v):∃a vs,v= .ref a/\dJ K H a vs/\aB K H ι ds vs:=h
def Rep.wj(h:Rep K H ι (.bB ds) v):∃a vs,v= .ref a/\rO K H a vs/\aB K H ι ds vs:=h
def Rep.fG(h:Rep K H ι (.ref n) v):∃a,ι[n]?=O a/\v= .ref a:=h
def Rep.Z:Rep K H ι .Z .Z:=rfl
def Rep.bl{b:Bool}:Rep K H ι (.bl b) (.bl b):=rfl
def Rep.int{i:Int}:Rep K H ι (.int i) (.int i):=rfl
def Rep.str{x:b9}:Rep K H ι (.str x) (.str ⟨kb x⟩):=rfl
def Rep.U{a:Yy}{vs:List V}{ds:c9}(s:dJ K H a vs)(r:aB K H ι ds vs):Rep K H ι (.U ds) (.ref a):=⟨a,vs,rfl,s,r⟩
def Rep.ref{a:Yy}(s:ι[n]?=O a):Rep K H ι (.ref n) (.ref a):=⟨a,s,rfl⟩
end
def BZ(e C:Yy)(dd:Option Yy)(h:aH):Prop:=∃o vs,h.get? e=O o/\o.cls= .ref C/\o.data= .fields vs/\o.dict=dd
abbrev vH(e C:Yy)(dd:Option Yy):HO:=.ext<|BZ e C dd
def dk:jA->Key
 | .inl i=>.inl i|.inr x=>.inr ⟨kb x⟩
def eO(K:Yb)(H:Hp)(ι:List Yy)(d5:List (jA×D))(ws:List (Key×V)):Prop:=ws.map (·.1)=d5.map (λp=>dk p.1)/\aB K H ι (d5.map (·.2)) (ws.map (·.2))
def gW(K:Yb)(H:Hp)(ι:List Yy)(fs:List (b9×D))(gs:List (aj×V)):Prop:=gs.map (·.1)=fs.map (λp=>(⟨kb p.1⟩:aj))/\aB K H ι (fs.map (·.2)) (gs.map (·.2))
def ClsAt(K:Yb)(c:b9)(C:Yy):Prop:=PySem.W.nsIn K Y7 ⟨kb c⟩=O (O<|.ref C)
def Qi(K:Yb)(H:Hp)(ι:List Yy)(fs:List (b9×D))(dd:Option Yy):Prop:=fs=[]\/∃dx o gs,dd=O dx/\H dx=O (.cY o<|.xd gs)/\gW K H ι fs gs
variable{ι:List Yy}
def Qi.up{H':Hp}{ι':List Yy}{fs:List (b9×D)}{dd:Option Yy}(hf:∀b o gs,H b=O (.cY o<|.xd gs)->H' b=O (.cY o<|.xd gs))(hr:∀ds vs,aB K H ι ds vs->aB K H' ι' ds vs)(h:Qi K H ι fs dd):Qi K H' ι' fs dd:=h.imp id λz=>let⟨dx,o,gs,e,q,r1,r2⟩:=z;⟨dx,o,gs,e,hf _ _ _ q,r1,hr _ _ r2⟩
def oN(K:Yb)(H:Hp)(ι:List Yy):MO->Yy->Prop
 | .L xs,a=>∃vs,H a=O (.L vs)/\aB K H ι xs vs|.qq d5,a=>∃ws,H a=O (.dK ws)/\eO K H ι d5 ws|.dY d5,a=>∃ws,(∃o,H a=O (.cY o<|.dK ws))/\eO K H ι d5 ws|.ins c fs,a=>(∃C dx gs,H a=O (.ins C dx gs)/\(ClsAt K c C/\c.head?≠O 0)/\gW K H ι fs gs)\/∃C dd,H a=O (vH a C dd)/\c.head?=O 0/\ClsAt K c.tail C/\Qi K H ι fs dd
structure aF(K:Yb)(H:Hp)(ι:List Yy)(M:b3):Prop where
 len:B ι=M.length
 nd:ι.Nodup
 obj:∀(n:Nat) o a,M[n]?=O o->ι[n]?=O a->oN K H ι o a
def Loose(H:Hp)(p:Yy):Prop:=H p=Yj\/(∃vs,H p=O (.L vs))\/(∃ws,H p=O (.dK ws))\/∃C dx gs,H p=O (.ins C dx gs)
variable{m:MO}
section
variable {K:Yb} {H H':Hp} {ι ι':List Yy} {M:b3} {p:Yy} {o:HO}
def Loose.ne{a:Yy}{u:HO}(l:Loose H p)(h:H a=O u)(h1:∀vs,u≠ .L vs)(h2:∀ws,u≠ .dK ws)(h3:∀C dx gs,u≠ .ins C dx gs:=by exact nofun):a≠p:=by
 rintro rfl;rcases l with l|⟨vs,l⟩|⟨ws,l⟩|⟨C,dx,gs,l⟩
 .rw[h]at l;cases l
 .rw[h]at l;exact h1 vs<|fM l
 .rw[h]at l;exact h2 ws<|fM l
 .rw[h]at l;exact h3 C dx gs<|fM l
def Loose.U(l:Loose H p){a:Yy}{xs:List V}(h:dJ K H a xs):dJ K (upd H p o) a xs:=by
 rcases h with(h|⟨ob,h⟩)|h
 exact .inl (.inl<|by rwa[bH<|l.ne h nofun nofun]);exact .inl (.inr ⟨ob,by rwa[bH<|l.ne h nofun nofun]⟩);exact .inr h
def Loose.bB(l:Loose H p){a:Yy}{xs:List V}(h:rO K H a xs):rO K (upd H p o) a xs:=by
 rcases h with⟨ob,h⟩|h
 .exact .inl ⟨ob,by rwa[bH<|l.ne h nofun nofun]⟩
 .exact .inr h
def Loose.cY(l:Loose H p){a:Yy}{ob:aK}{u:HO}(h:H a=O (.cY ob u)):upd H p o a=O (.cY ob u):=by rwa[bH<|l.ne h nofun nofun]
def Loose.ext(l:Loose H p):Ext K H ι (upd H p o) ι:=⟨λ_ _ h=>l.U h,λ_ _ h=>l.bB h,λ_ _ h=>h,λ_ _ _ h=>l.cY h⟩
def Loose.Hi(l:Loose H p):Ext K H ι (upd H p o) (ι++[p]):=⟨λ_ _ h=>l.U h,λ_ _ h=>l.bB h,λn a h=>by rwa[Yk (Yg.mp h).1],λ_ _ _ h=>l.cY h⟩
def oN.mono{a:Yy}(e:Ext K H ι H' ι')(h:oN K H ι m a)(k:H' a=H a):oN K H' ι' m a:=by
 cases m with
 |L xs=>let⟨vs,q,r⟩:=h;exact⟨vs,k.trans q,r.mono e⟩|qq d5=>let⟨ws,q,r1,r2⟩:=h;exact⟨ws,k.trans q,r1,r2.mono e⟩|dY d5=>let⟨ws,⟨o,q⟩,r1,r2⟩:=h;exact⟨ws,⟨o,k.trans q⟩,r1,r2.mono e⟩|ins c fs=>
  rcases h with⟨C,dx,gs,q,c,r1,r2⟩|⟨C,dd,q,z,c,r⟩
  .exact .inl ⟨C,dx,gs,k.trans q,c,r1,r2.mono e⟩
  .exact .inr ⟨C,dd,k.trans q,z,c,r.up (λb o g q=>e.cY b o _ q) λ_ _ r=>r.mono e⟩
def oN.ne{a:Yy}(h:oN K H ι m a):H a≠Yj:=by
 cases m with
 |L xs=>let⟨vs,q,r⟩:=h;rw[q];simp|qq d5=>let⟨ws,q,r⟩:=h;rw[q];simp|dY d5=>let⟨ws,⟨o,q⟩,r⟩:=h;rw[q];simp|ins c fs=>rcases h with⟨C,dx,gs,q,r⟩|⟨C,dd,q,r⟩<;>(rw[q];simp)
def aF.at(S:aF K H ι M)(h:M[n]?=O m):∃a,ι[n]?=O a/\oN K H ι m a:=by
 have hn:n<B ι:=by rw[S.len];exact(Yg.mp h).1
 exact⟨ι[n],by simp[hn],S.obj n m _ h<|by simp[hn]⟩
def aF.there(S:aF K H ι M){a:Yy}(h:ι[n]?=O a):∃m,M[n]?=O m/\oN K H ι m a:=by
 have hn:n<B M:=by rw[<-S.len];exact(Yg.mp h).1
 exact⟨M[n],by simp[hn],S.obj n _ _ (by simp[hn]) h⟩
def aF.fresh(S:aF K H ι M)(hp:H p=Yj):p∉ι:=λh=>by let⟨n,hn⟩:=Ut h;let⟨m,_,q⟩:=S.there hn;exact q.ne hp
def aF.other(S:aF K H ι M)(l:Loose H p)(hp:p∉ι):aF K (upd H p o) ι M:=⟨S.len,S.nd,λn m a h1 h2=>(S.obj n m a h1 h2).mono l.ext (by rw[bH];rintro rfl;exact hp<|Ay h2)⟩
def aF.new(S:aF K H ι M)(hp:H p=Yj)(h:oN K (upd H p o) (ι++[p]) m p):aF K (upd H p o) (ι++[p]) (M++[m]):=by
 have hf:=S.fresh hp;refine⟨by simp[S.len],?_,λn m' a h1 h2=>?_⟩
 .exact NT.mpr ⟨S.nd,i9,λx hx y hy=>by
   have e:y=p:=by simpa using hy
   subst e;rintro rfl;exact hf hx⟩
 .by_cases hn:n<ι.length
  .rw[Yk hn]at h2;rw[Yk<|by rwa[<-S.len]]at h1;refine(S.obj n m' a h1 h2).mono (Loose.Hi<|.inl hp) ?_;rw[bH];rintro rfl;exact hf<|Ay h2
  .rw[uW<|k_ hn]at h2;rw[uW (by rw[<-S.len];exact k_ hn)]at h1;have j1:n-B ι<1:=by
    have:=(Yg.mp h2).1;simpa using this
   have e0:n-B ι=0:=fY b5<|g_ _;rw[e0]at h2;rw[<-S.len,e0]at h1;simp at h1 h2;subst h1 h2;exact h
def aF.put(S:aF K H ι M)(l0:Loose H p)(hn:ι[n]?=O p)(h:oN K (upd H p o) ι m p):aF K (upd H p o) ι (M.set n m):=by
 let⟨m0,hm0,q0⟩:=S.there hn;refine⟨by simp[S.len],S.nd,λk m' a h1 h2=>?_⟩;by_cases hk:k=n
 .subst hk;rw[hn]at h2;cases h2;have j1:k<B M:=(Yg.mp hm0).1;rw[Y4 j1]at h1;cases h1;exact h
 .rw[Ys<|cu hk]at h1;refine(S.obj k m' a h1 h2).mono (Loose.ext l0) ?_;rw[bH];rintro rfl;have DM:=(Yg.mp h2);have DO:=(Yg.mp hn);exact hk<|(Lc S.nd).mp<|DM.2.trans DO.2.symm
def aF.L(S:aF K H ι M)(hp:H p=Yj){xs:c9}{vs:List V}(r:aB K H ι xs vs):Ext K H ι (upd H p<|.L vs) (ι++[p])/\aF K (upd H p<|.L vs) (ι++[p]) (M++[.L xs])/\Rep K (upd H p<|.L vs) (ι++[p]) (.ref<|B M) (.ref p):=by have e:Ext K H ι (upd H p<|.L vs) (ι++[p]):=Loose.Hi<|.inl hp;refine⟨e,S.new hp ⟨vs,iw,r.mono e⟩,Rep.ref ?_⟩;rw[<-S.len];simp
def aF.wz(S:aF K H ι M)(hp:H p=Yj)(r:aB K H ι xs vs):Ext K H ι (upd H p<|.U vs) ι/\aF K (upd H p<|.U vs) ι M/\Rep K (upd H p<|.U vs) ι (.U xs) (.ref p):=by have e:Ext K H ι (upd H p<|.U vs) ι:=Loose.ext<|.inl hp;exact⟨e,S.other (.inl hp)<|S.fresh hp,Rep.U (dJ.of iw)<|r.mono e⟩
def aF.yo(S:aF K H ι M)(l0:Loose H p)(hn:ι[n]?=O p)(r:aB K H ι xs vs):Ext K H ι (upd H p<|.L vs) ι/\aF K (upd H p<|.L vs) ι (M.set n<|.L xs):=by have e:Ext K H ι (upd H p<|.L vs) ι:=Loose.ext l0;exact⟨e,S.put l0 hn ⟨vs,iw,r.mono e⟩⟩
end
def bT(K:Yb)(H:Hp)(ι:List Yy)(env:bO)(σ:St):Prop:=B env=B σ/\∀(i:Nat) d,env[i]?=O (O d)->∃v,σ[i]?=O (O v)/\Rep K H ι d v
variable{σ:St}
def bT.mono{H':Hp}{ι':List Yy}(r:bT K H ι env σ)(e:Ext K H ι H' ι'):bT K H' ι' env σ:=⟨r.1,λi d h=>let⟨v,q,z⟩:=r.2 i d h;⟨v,q,z.mono e⟩⟩
def bT.set(r:bT K H ι env σ)(i:Nat)(h:Rep K H ι d v):bT K H ι (env.set i<|O d) (σ.set i<|O v):=by
 refine⟨by simp[r.1],λj e hj=>?_⟩;by_cases xh:j=i
 .subst xh;have j1:j<B env:=by
   have:=(Yg.mp hj).1;simpa using this
  rw[Y4 j1]at hj;cases hj;exact⟨v,by rw[Y4<|by rwa[<-r.1]],h⟩
 .rw[Ys<|cu xh]at hj;let⟨w,q,z⟩:=r.2 j e hj;exact⟨w,by rwa[Ys<|cu xh],z⟩
def au(K:Yb)(H:Hp)(ι:List Yy)(Q:VK)(r:R3 D):Prop:=match r with
 | .ok d M'=>∀v H' ι',Ext K H ι H' ι'->aF K H' ι' M'->Rep K H' ι' d v->Q v H'|_=>False
inductive TZ(K:Yb)(f:E3)(σ:St)(H:Hp)(Q:VK):Prop where
 |mk (ι:List Yy) (M:b3) (env:bO) (S:aF K H ι M) (E:bT K H ι env σ) (h:au K H ι Q (f env M)):TZ K f σ H Q
def oO(K:Yb)(f:E3):TE:=λσ H Q=>TZ K f σ H Q
def oR(K:Yb)(H:Hp)(ι:List Yy)(Q:Bool->Hp->Prop)(r:R3 D):Prop:=match r with
 | .ok (.bl b) M'=>∀H' ι',Ext K H ι H' ι'->aF K H' ι' M'->Q b H'|_=>False
inductive Up(K:Yb)(f:E3)(σ:St)(H:Hp)(Q:Bool->Hp->Prop):Prop where
 |mk (ι:List Yy) (M:b3) (env:bO) (S:aF K H ι M) (E:bT K H ι env σ) (h:oR K H ι Q (f env M)):Up K f σ H Q
def UA(K:Yb)(f:E3):TT:=λσ H Q=>Up K f σ H Q
def FP(K:Yb)(H:Hp)(ι:List Yy)(Q:List V->Hp->Prop)(r:R3 c9):Prop:=match r with
 | .ok ds M'=>∀vs H' ι',Ext K H ι H' ι'->aF K H' ι' M'->aB K H' ι' ds vs->Q vs H'|_=>False
inductive UB(K:Yb)(f:d_)(σ:St)(H:Hp)(Q:List V->Hp->Prop):Prop where
 |mk (ι:List Yy) (M:b3) (env:bO) (S:aF K H ι M) (E:bT K H ι env σ) (h:FP K H ι Q (f env M)):UB K f σ H Q
def W9(K:Yb)(f:d_):TA:=λσ H Q=>UB K f σ H Q
def JB(K:Yb)(H:Hp)(ι:List Yy)(Q:Option Int->Hp->Prop)(r:R3 (Option Int)):Prop:=match r with
 | .ok o M'=>∀H' ι',Ext K H ι H' ι'->aF K H' ι' M'->Q o H'|_=>False
def tOo(K:Yb)(f:Bu):TO:=λσ H Q=>∃ι M env,aF K H ι M/\bT K H ι env σ/\JB K H ι Q (f env M)
def qM(K:Yb)(H:Hp)(ι:List Yy)(E:Ends)(r:O3):Prop:=match r with
 | .nx env' M'=>∀σ' H' ι',Ext K H ι H' ι'->aF K H' ι' M'->bT K H' ι' env' σ'->E.nx σ' H'|.bk env' M'=>∀σ' H' ι',Ext K H ι H' ι'->aF K H' ι' M'->bT K H' ι' env' σ'->E.bk σ' H'|.ct env' M'=>∀σ' H' ι',Ext K H ι H' ι'->aF K H' ι' M'->bT K H' ι' env' σ'->E.ct σ' H'|.rt d M'=>∀v H' ι',Ext K H ι H' ι'->aF K H' ι' M'->Rep K H' ι' d v->E.rt v H'
 |_=>False
inductive UC(K:Yb)(f:S3)(D:Ends)(σ:St)(H:Hp):Prop where
 |mk (ι:List Yy) (M:b3) (env:bO) (S:aF K H ι M) (E:bT K H ι env σ) (h:qM K H ι D (f env M)):UC K f D σ H
def UD(K:Yb)(f:S3):TS:=λE σ H=>UC K f E σ H
def C3(X:Cx)(e:Expr)(f:E3):Prop:=PE X e<|oO X.K f
def CT(X:Cx)(e:Expr)(f:E3):Prop:=PT X e<|UA X.K f
def CA(X:Cx)(es:List Expr)(f:d_):Prop:=PA X es<|W9 X.K f
def CO(X:Cx)(e:Option Expr)(f:Bu):Prop:=PO X e<|tOo X.K f
def CS(X:Cx)(st:Ydv)(f:S3):Prop:=PS X st<|UD X.K f
def pU(X:Cx)(st:List Ydv)(f:S3):Prop:=lz X st<|UD X.K f
variable{X:Cx}{e:Expr}
def _root_.L2.PE.imp{t t':TE}(h:PE X e t)(i:∀σ H Q,t' σ H Q->t σ H Q):PE X e t':=λb4 s σ H Q I q=>h b4 s σ H Q I<|i σ H Q q
def _root_.L2.PT.imp{t t':TT}(h:PT X e t)(i:∀σ H Q,t' σ H Q->t σ H Q):PT X e t':=λb4 s σ H Q I q=>h b4 s σ H Q I<|i σ H Q q
def _root_.L2.PA.imp{e:List Expr}{t t':TA}(h:PA X e t)(i:∀σ H Q,t' σ H Q->t σ H Q):PA X e t':=λpos b4 s σ H Q I q=>h pos b4 s σ H Q I<|i σ H Q q
def _root_.L2.PO.imp{e:Option Expr}{t t':TO}(h:PO X e t)(i:∀σ H Q,t' σ H Q->t σ H Q):PO X e t':=λb4 s σ H Q I q=>h b4 s σ H Q I<|i σ H Q q
def _root_.L2.PS.imp{e:Ydv}{t t':TS}(h:PS X e t)(i:∀D σ H,t' D σ H->t D σ H):PS X e t':=λb4 s σ H D I q=>h b4 s σ H D I<|i D σ H q
def _root_.L2.lz.imp{e:List Ydv}{t t':TS}(h:lz X e t)(i:∀D σ H,t' D σ H->t D σ H):lz X e t':=λb4 s σ H D I q=>h b4 s σ H D I<|i D σ H q
def _root_.L2.bA.imp{f:Yh->Yh->nW Yh}{r r':R2}(h:bA X f r)(i:∀x y H Q,r' x y H Q->r x y H Q):bA X f r':=λb4 s σ H x y v u Q I rx ry q=>h b4 s σ H x y v u Q I rx ry<|i x y H Q q
def _root_.L2.wV.imp{f:Yh->nW Yh}{r r':V->Hp->VK->Prop}(h:wV X f r)(i:∀x H Q,r' x H Q->r x H Q):wV X f r':=λb4 s σ H x v Q I rx q=>h b4 s σ H x v Q I rx<|i x H Q q
def _root_.L2.dB.imp{f:Yh}{r r':List V->Hp->VK->Prop}(h:dB X f r)(i:∀x H Q,r' x H Q->r x H Q):dB X f r':=λb4 s σ H xs us Q I rx q=>h b4 s σ H xs us Q I rx<|i xs H Q q
def _root_.L2.ou.imp{r r':R2}(h:ou X r)(i:∀x y H Q,r' x y H Q->r x y H Q):ou X r':=λvalue slice b4 s σ H x y v u Q I rx ry q hs=>h value slice b4 s σ H x y v u Q I rx ry (i x y H Q q) hs
def _root_.L2.lU.imp{r r':V->Option Int->Option Int->Hp->VK->Prop}(h:lU X r)(i:∀x lo hi H Q,r' x lo hi H Q->r x lo hi H Q):lU X r':=λb4 s σ H x v vl vu lo hi sl Q I rx hs pl pu q=>h b4 s σ H x v vl vu lo hi sl Q I rx hs pl pu<|i x lo hi H Q q
variable{r:R3 D}
section
variable {K:Yb} {H H1:Hp} {ι ι1:List Yy}
def au.up{Q:VK}(e:Ext K H ι H1 ι1)(h:au K H ι Q r):au K H1 ι1 Q r:=by
 cases r with
 |ok d M=>exactλv H' ι' e' S r=>h v H' ι' (e.trans e') S r|exc x M=>exact h|bad=>exact h
def oR.up{Q:Bool->Hp->Prop}(e:Ext K H ι H1 ι1)(h:oR K H ι Q r):oR K H1 ι1 Q r:=by
 cases r with
 |ok d M=>cases d<;>first|exact h|exactλH' ι' e' S=>h H' ι' (e.trans e') S
 |exc x M=>exact h|bad=>exact h
def qM.up{Q:Ends}{r:O3}(e:Ext K H ι H1 ι1)(h:qM K H ι Q r):qM K H1 ι1 Q r:=by
 cases r with
 |nx d M=>exactλv H' ι' e' S r=>h v H' ι' (e.trans e') S r|bk d M=>exactλv H' ι' e' S r=>h v H' ι' (e.trans e') S r|ct d M=>exactλv H' ι' e' S r=>h v H' ι' (e.trans e') S r|rt d M=>exactλv H' ι' e' S r=>h v H' ι' (e.trans e') S r
 |exc x M=>exact h|bad=>exact h
def au.ok{Q:VK}(h:au K H ι Q (.ok d M))(S:aF K H ι M)(r:Rep K H ι d v):Q v H:=h v H ι Ext.refl S r
def au.bind{Q:VK}{r:R3 α}{k:α->b3->R3 D}(h:au K H ι Q (r.bind k)):∃a M,r= .ok a M/\au K H ι Q (k a M):=by
 cases r with
 |ok a M=>exact⟨a,M,rfl,h⟩|exc x M=>cases h|bad=>cases h
def FP.bind{Q:List V->Hp->Prop}{r:R3 α}{k:α->b3->R3 c9}(h:FP K H ι Q (r.bind k)):∃a M,r= .ok a M/\FP K H ι Q (k a M):=by
 cases r with
 |ok a M=>exact⟨a,M,rfl,h⟩|exc x M=>cases h|bad=>cases h
def JB.bind{Q:Option Int->Hp->Prop}{r:R3 α}{k:α->b3->R3 (Option Int)}(h:JB K H ι Q (r.bind k)):∃a M,r= .ok a M/\JB K H ι Q (k a M):=by
 cases r with
 |ok a M=>exact⟨a,M,rfl,h⟩|exc x M=>cases h|bad=>cases h
def oR.bind{Q:Bool->Hp->Prop}{r:R3 α}{k:α->b3->R3 D}(h:oR K H ι Q (r.bind k)):∃a M,r= .ok a M/\oR K H ι Q (k a M):=by
 cases r with
 |ok a M=>exact⟨a,M,rfl,h⟩|exc x M=>cases h|bad=>cases h
end
inductive UE(K:Yb)(op:D->D->b3->R3 D)(x y:V)(H:Hp)(Q:VK):Prop where
 |mk (ι:List Yy) (M:b3) (a b:D) (S:aF K H ι M) (ra:Rep K H ι a x) (rb:Rep K H ι b y) (h:au K H ι Q (op a b M)):UE K op x y H Q
def r2(K:Yb)(op:D->D->b3->R3 D):R2:=λx y H Q=>UE K op x y H Q
def r1(K:Yb)(op:D->b3->R3 D):V->Hp->VK->Prop:=λx H Q=>∃ι M a,aF K H ι M/\Rep K H ι a x/\au K H ι Q (op a M)
inductive UH(K:Yb)(b:c9->b3->R3 D)(xs:List V)(H:Hp)(Q:VK):Prop where
 |mk (ι:List Yy) (M:b3) (ds:c9) (S:aF K H ι M) (r:aB K H ι ds xs) (h:au K H ι Q (b ds M)):UH K b xs H Q
def rB(K:Yb)(b:c9->b3->R3 D):List V->Hp->VK->Prop:=λxs H Q=>UH K b xs H Q
def rM(K:Yb)(m:D->c9->b3->R3 D):V->List V->Hp->VK->Prop:=λx xs H Q=>∃ι M a ds,aF K H ι M/\Rep K H ι a x/\aB K H ι ds xs/\au K H ι Q (m a ds M)
def rS(K:Yb):V->Option Int->Option Int->Hp->VK->Prop:=λx lo hi H Q=>∃ι M a,aF K H ι M/\Rep K H ι a x/\au K H ι Q (Bv a lo hi M)
def Qj{op:D->D->b3->R3 D}(σ:St)(H:Hp)(Q:VK)(h:oO K (e2 op f g) σ H Q):Ff (r2 K op) (oO K f) (oO K g) σ H Q:=by let⟨ι,M,env,S,E,h⟩:=h;let⟨a,M1,e1,h⟩:=au.bind h;let⟨b,M2,e2,h⟩:=au.bind h;refine⟨ι,M,env,S,E,?_⟩;rw[e1];intro v H1 ι1 x1 S1 r1;refine⟨ι1,M1,env,S1,E.mono x1,?_⟩;rw[e2];intro u H2 ι2 x2 S2 r2;exact⟨ι2,M2,a,b,S2,r1.mono x2,r2,(h.up x1).up x2⟩
def ZxT{op:D->b3->R3 D}(σ:St)(H:Hp)(Q:VK)(h:oO K (e1 op f) σ H Q):PY (r1 K op) (oO K f) σ H Q:=by let⟨ι,M,env,S,E,h⟩:=h;let⟨a,M1,e1,h⟩:=au.bind h;refine⟨ι,M,env,S,E,?_⟩;rw[e1];intro v H1 ι1 x1 S1 r1;exact⟨ι1,M1,a,S1,r1,h.up x1⟩
variable{u:Yh}
section
variable {X:Cx} {a b c e o:Expr} {es:List Expr} {pos p:a_} {f g h:E3} {gl:d_}
def Zd(i:Nat){x:aj}(hN:X.N[i]?=O x:=by rfl)(hv:Ph X.env.scope x:=by first|exact Or.inl rfl|exact Or.inr (Or.inl J)|exact Or.inr (Or.inr J))(hd:(x==("__debug__":aj))=false:=by decide)(tI:(x==("__classdict__":aj))=false:=by decide):C3 X (.Name x pos) (Zb i):=(Ja hN hv hd tI).imp λσ H Q ak=>by
 let⟨ι,M,env,S,E,h⟩:=ak;unfold Zb at h;cases q:env[i]? with
 |none=>rw[q]at h;cases h|some od=>
  cases od with
  |none=>rw[q]at h;cases h|some d=>rw[q]at h;let⟨v,e1,r⟩:=E.2 i d q;exact⟨v,e1,au.ok h S r⟩
def Zk{i j}:C3 X (.Constant (.int i) j pos) (eC<|.int i):=V8.imp λσ H Q ⟨ι,M,env,S,E,h⟩=>au.ok h S Rep.int
def FQ{i j}:C3 X (.Constant (.bool i) j pos) (eC<|.bl i):=ZzD.imp λσ H Q ⟨ι,M,env,S,E,h⟩=>au.ok h S Rep.bl
def oU{j}:C3 X (.Constant .none j pos) (eC .Z):=ZxB.imp λσ H Q ⟨ι,M,env,S,E,h⟩=>au.ok h S Rep.Z
def Zy{x:aj}{cs:b9}{j}(hx:x=⟨kb cs⟩:=by decide +kernel):C3 X (.Constant (.str x) j pos) (eC<|.str cs):=V9.imp λσ H Q ak=>by let⟨ι,M,env,S,E,h⟩:=ak;subst hx;exact au.ok h S Rep.str
def xx{x:aj}(hm:X.mg x=O u)(r:RelV v u)(hr:∀H ι,Rep X.K H ι d v)(hg:Gl X x:=by rfl)(hd:(x==("__debug__":aj))=false:=by decide):C3 X (.Name x pos) (eC d):=(za hg hm r hd).imp λσ H Q ⟨ι,M,env,S,E,h⟩=>au.ok h S<|hr H ι
def Zr{op:Operator}{q:D->D->b3->R3 D}(ho:bA X (jM op) (r2 X.K q))(ha:C3 X a f)(hb:C3 X b g):C3 X (.BinOp a op b pos) (e2 q f g):=(ZyK ho ha hb).imp Qj
def lX{op:UnaryOp}{q:D->b3->R3 D}(ho:wV X (Nm op) (r1 X.K q))(ha:C3 X a f):C3 X (.UnaryOp op a pos) (e1 q f):=(ZzV ho ha).imp ZxT
def zB{op:CmpOp}{q:D->D->b3->R3 D}(ho:bA X (gM op) (r2 X.K q))(ha:C3 X a f)(hb:C3 X b g)(hm:Ar op b=false:=by rfl):C3 X (.Compare a [op] [b] pos) (e2 q f g):=(P4 ho ha hb hm).imp Qj
def JC{Q:Bool->Hp->Prop}(h:oR K H ι Q r):au K H ι (λx H'=>∃k,x= .bl k/\Q k H') r:=by
 cases r with
 |ok d M=>
  cases d with
  |bl b=>exactλv H' ι' e S r=>⟨b,r.iW,h H' ι' e S⟩|_=>cases h
 |exc x M=>cases h|bad=>cases h
def rP(h:C3 X e f)(he:∀whole,isTrue e X.env whole=(do let v ←whole;Ej e.pos;wI [v] (truthy v)):=by intro _;rfl):CT X e f:=(ZxV h he).imp λσ H Q ⟨ι,M,env,S,E,h⟩=>⟨ι,M,env,S,E,JC h⟩
def bF{op:CmpOp}{q:D->D->b3->R3 D}(ho:bA X (gM op) (r2 X.K q))(ha:C3 X a f)(hb:C3 X b g)(hm:Ar op b=false:=by rfl):CT X (.Compare a [op] [b] pos) (e2 q f g):=(Wm ho ha hb hm).imp λσ H Q ⟨ι,M,env,S,E,h⟩=>Qj σ H _ ⟨ι,M,env,S,E,JC h⟩
end
variable{q:c9->b3->R3 D}{st:Ydv}
section
variable {X:Cx} {a b c e o:Expr} {es rest:List Expr} {pos p:a_} {f g h:E3} {gl:d_}
def W_{op}(h:C3 X a f):C3 X (.BoolOp op [a] pos) f:=ZwX h
def Xd(ha:C3 X a f)(hb:C3 X (.BoolOp .And (b::rest) pos) g):C3 X (.BoolOp .And (a::b::rest) pos) (cN f g):=(Zwj ha hb).imp λσ H Q ak=>by
 let⟨ι,M,env,S,E,h⟩:=ak;let⟨d,M1,e1,h⟩:=au.bind h;refine⟨ι,M,env,S,E,?_⟩;rw[e1];intro v H1 ι1 x1 S1 r1;cases d with
 |bl k=>
  refine⟨k,r1.iW,?_⟩;cases k with
  |true=>rw[c_ J];exact⟨ι1,M1,env,S1,E.mono x1,h.up x1⟩|false=>rw[d4 aaA];exact au.ok (h.up x1) S1 Rep.bl
 |_=>cases h
def UI(ha:C3 X a f)(hb:C3 X (.BoolOp .Or (b::rest) pos) g):C3 X (.BoolOp .Or (a::b::rest) pos) (dh f g):=(ZzI ha hb).imp λσ H Q ak=>by
 let⟨ι,M,env,S,E,h⟩:=ak;let⟨d,M1,e1,h⟩:=au.bind h;refine⟨ι,M,env,S,E,?_⟩;rw[e1];intro v H1 ι1 x1 S1 r1;cases d with
 |bl k=>
  refine⟨k,r1.iW,?_⟩;cases k with
  |false=>rw[d4 aaA];exact⟨ι1,M1,env,S1,E.mono x1,h.up x1⟩|true=>rw[c_ J];exact au.ok (h.up x1) S1 Rep.bl
 |_=>cases h
def UK(ha:C3 X a f):C3 X (.UnaryOp .Not a pos) (e1 pH f):=(ZxY ha).imp λσ H Q ak=>by
 let⟨ι,M,env,S,E,h⟩:=ak;let⟨d,M1,e1,h⟩:=au.bind h;refine⟨ι,M,env,S,E,?_⟩;rw[e1];intro v H1 ι1 x1 S1 r1;cases d with
 |bl k=>exact⟨k,r1.iW,au.ok (h.up x1) S1 Rep.bl⟩|_=>cases h
def CW(X:Cx)(e:Expr)(f:E3):Prop:=PW X e<|UA X.K f
def CW.ct(h:CW X e f):CT X e f:=PW.pt h
def PW.imp{t t':TT}(h:PW X e t)(i:∀σ H Q,t' σ H Q->t σ H Q):PW X e t':=λwh b4 s σ H Q I q=>h wh b4 s σ H Q I<|i σ H Q q
def zE(ha:CT X a f):CW X (.BoolOp .And [a] pos) f:=Zu9 ha
def xF(ha:CT X a f):CW X (.BoolOp .Or [a] pos) f:=Zxd ha
def rQ(ha:CT X a f)(hb:CW X (.BoolOp .And (b::rest) pos) g):CW X (.BoolOp .And (a::b::rest) pos) (cN f g):=PW.imp (Zxc ha hb) λσ H Q ak=>by
 let⟨ι,M,env,S,E,h⟩:=ak;let⟨d,M1,e1,h⟩:=oR.bind h;refine⟨ι,M,env,S,E,?_⟩;rw[e1];cases d with
 |bl k=>
  intro H1 ι1 x1 S1;cases k with
  |true=>rw[c_ J];exact⟨ι1,M1,env,S1,E.mono x1,h.up x1⟩|false=>rw[d4 aaA];exact h H1 ι1 x1 S1
 |_=>cases h
def uh(ha:CT X a f)(hb:CW X (.BoolOp .Or (b::rest) pos) g):CW X (.BoolOp .Or (a::b::rest) pos) (dh f g):=PW.imp (ZzF ha hb) λσ H Q ak=>by
 let⟨ι,M,env,S,E,h⟩:=ak;let⟨d,M1,e1,h⟩:=oR.bind h;refine⟨ι,M,env,S,E,?_⟩;rw[e1];cases d with
 |bl k=>
  intro H1 ι1 x1 S1;cases k with
  |false=>rw[d4 aaA];exact⟨ι1,M1,env,S1,E.mono x1,h.up x1⟩|true=>rw[c_ J];exact h H1 ι1 x1 S1
 |_=>cases h
def FT(ha:CT X a f):CT X (.UnaryOp .Not a pos) (e1 pH f):=(ZwI ha).imp λσ H Q ak=>by
 let⟨ι,M,env,S,E,h⟩:=ak;let⟨d,M1,e1,h⟩:=oR.bind h;refine⟨ι,M,env,S,E,?_⟩;rw[e1];cases d with
 |bl k=>exactλH1 ι1 x1 S1=>h H1 ι1 x1 S1|_=>cases h
def JD(hc:CT X c f)(ha:C3 X a g)(hb:C3 X b h):C3 X (.IfExp c a b pos) (j5 f g h):=(Zsh hc ha hb).imp λσ H Q ak=>by
 let⟨ι,M,env,S,E,h⟩:=ak;let⟨d,M1,e1,h⟩:=au.bind h;refine⟨ι,M,env,S,E,?_⟩;rw[e1];cases d with
 |bl k=>
  intro H1 ι1 x1 S1;cases k with
  |true=>rw[c_ J];exact⟨ι1,M1,env,S1,E.mono x1,h.up x1⟩|false=>rw[d4 aaA];exact⟨ι1,M1,env,S1,E.mono x1,h.up x1⟩
 |_=>cases h
def Zg:CA X [] Ze:=zc.imp λσ H Q ⟨ι,M,env,S,E,h⟩=>h [] H ι Ext.refl S aB.nil
def Zc(ha:C3 X e f)(hr:CA X es gl)(hs:Yv (e::es) X.env=(false,aO e X.env)::Yv es X.env:=by rfl):CA X (e::es) (Za f gl):=(qG ha hr hs).imp λσ H Q ak=>by let⟨ι,M,env,S,E,h⟩:=ak;let⟨d,M1,e1,h⟩:=FP.bind h;let⟨ds,M2,e2,h⟩:=FP.bind h;refine⟨ι,M,env,S,E,?_⟩;rw[e1];intro v H1 ι1 x1 S1 r1;refine⟨ι1,M1,env,S1,E.mono x1,?_⟩;rw[e2];intro vs H2 ι2 x2 S2 r2;exact h (v::vs) H2 ι2 (x1.trans x2) S2<|aB.cons (r1.mono x2) r2
def qN{x1}(h:CA X es gl):C3 X (.Tuple es x1 pos) (ji gl):=(Wr h).imp λσ H Q ak=>by
 let⟨ι,M,env,S,E,h⟩:=ak;let⟨ds,M1,e1,h⟩:=au.bind h;refine⟨ι,M,env,S,E,?_⟩;rw[e1];intro vs H1 ι1 x1 S1 r1;by_cases hz:B ds<=SZ
 .rw[c_ hz]at h;refine⟨by rw[r1.length];exact Yi hz mC,λp hp=>?_⟩;let⟨x2,S2,r2⟩:=S1.wz hp r1;exact h _ _ _ (x1.trans x2) S2 r2
 .rw[d4 hz]at h;cases h
def bj(h:CA X es gl):C3 X (.List es pos) (Zz gl):=(Zx9 h).imp λσ H Q ak=>by
 let⟨ι,M,env,S,E,h⟩:=ak;let⟨ds,M1,e1,h⟩:=au.bind h;refine⟨ι,M,env,S,E,?_⟩;rw[e1];intro vs H1 ι1 x1 S1 r1;by_cases hz:B ds<=SZ
 .rw[c_ hz]at h;refine⟨by rw[r1.length];exact Yi hz mC,λp hp=>?_⟩;let⟨x2,S2,r2⟩:=S1.L hp r1;exact h _ _ _ (x1.trans x2) S2 r2
 .rw[d4 hz]at h;cases h
def UM(σ:St)(H:Hp)(Q:VK)(h:oO K (aD q gl) σ H Q):Je (rB K q) (W9 K gl) σ H Q:=by let⟨ι,M,env,S,E,h⟩:=h;let⟨ds,M1,e1,h⟩:=au.bind h;refine⟨ι,M,env,S,E,?_⟩;rw[e1];intro vs H1 ι1 x1 S1 r1;exact⟨ι1,M1,ds,S1,r1,h.up x1⟩
def dX{x:aj}{id:String}(hc:dB X (.builtin id) (rB X.K q))(hm:X.mg x=Yj)(hv:jY x=O (.builtin id))(ha:CA X (e::es) gl)(hg:Gl X x:=by rfl)(hn:x≠ "__name__":=by decide)(sd:(x==("__debug__":aj))=false:=by decide)(he:Yv (e::es) X.env=(false,aO e X.env)::Yv es X.env:=by rfl)(qv:(b8 pos<|Yv es X.env).any (·.1)=false:=by rfl):C3 X (.Call (.Name x p) (e::es) [] pos) (aD q gl):=(Jf hc hg hm hv ha hn sd he qv).imp UM
def oV{x:aj}{T:String}(hc:dB X (.type T) (rB X.K q))(hm:X.mg x=Yj)(hv:jY x=O (.type T))(ha:CA X (e::es) gl)(hg:Gl X x:=by rfl)(hn:x≠ "__name__":=by decide)(sd:(x==("__debug__":aj))=false:=by decide)(he:Yv (e::es) X.env=(false,aO e X.env)::Yv es X.env:=by rfl)(qv:(b8 pos<|Yv es X.env).any (·.1)=false:=by rfl):C3 X (.Call (.Name x p) (e::es) [] pos) (aD q gl):=(QP hc hg hm hv ha hn sd he qv).imp UM
def bw(hr:ou X (r2 X.K Zn))(ha:C3 X a f)(hb:C3 X b g)(hs:Rl b:=by exactλ_ _=>rfl):C3 X (.Subscript a b pos) (e2 Zn f g):=(Zzj hr ha hb hs).imp Qj
def jj:CO X Yj bh:=ZuI.imp λσ H Q ⟨ι,M,env,S,E,h⟩=>h H ι Ext.refl S
def iM(h:C3 X e f):CO X (O e) (aX f):=(Zu4 h).imp λσ H Q ak=>by
 let⟨ι,M,env,S,E,h⟩:=ak;let⟨d,M1,e1,h⟩:=JB.bind h;refine⟨ι,M,env,S,E,?_⟩;rw[e1];intro v H1 ι1 x1 S1 r1;cases d with
 |int i=>exact⟨i,r1.int_inv,h H1 ι1 x1 S1⟩|_=>cases h
def jb{lo hi:Option Expr}{ol oh:Bu}{p2:a_}(hr:lU X (rS X.K))(he:C3 X e f)(hl:CO X lo ol)(hu:CO X hi oh):C3 X (.Subscript e (.Slice lo hi Yj p2) pos) (bf f ol oh):=(Zsq hr he hl hu).imp λσ H Q ak=>by let⟨ι,M,env,S,E,h⟩:=ak;let⟨d,M1,e1,h⟩:=au.bind h;let⟨l,M2,e2,h⟩:=au.bind h;let⟨u,M3,e3,h⟩:=au.bind h;refine⟨ι,M,env,S,E,?_⟩;rw[e1];intro v H1 ι1 x1 S1 r1;refine⟨ι1,M1,env,S1,E.mono x1,?_⟩;rw[e2];intro H2 ι2 x2 S2;refine⟨ι2,M2,env,S2,(E.mono x1).mono x2,?_⟩;rw[e3];intro H3 ι3 x3 S3;exact⟨ι3,M3,d,S3,(r1.mono x2).mono x3,((h.up x1).up x2).up x3⟩
def cL:pU X [] aW:=Zui.imp λD σ H ⟨ι,M,env,S,E,h⟩=>h σ H ι Ext.refl S E
def Zu{u:S3}(h:CS X st u):pU X [st] u:=Wb h
def Zh{ui:List Ydv}{u w:S3}(h1:CS X st u)(h2:pU X ui w):pU X (st::ui) (Zt u w):=(Wa h1 h2).imp λD σ H ak=>by
 let⟨ι,M,env,S,E,h⟩:=ak;refine⟨ι,M,env,S,E,?_⟩;have h':qM X.K H ι D (match u env M with| .nx env' M'=>w env' M'|o=>o):=h;cases q:u env M with
 |nx env' M'=>rw[q]at h';exactλσ' H' ι' x S' E'=>⟨ι',M',env',S',E',h'.up x⟩|_=>rwa[q]at h'
def cF{c1:Expr}{x y:List Ydv}{u w:S3}(hc:CT X c1 f)(ha:pU X x u)(hb:pU X y w):CS X (.If c1 x y pos) (aG f u w):=(Pt hc ha hb).imp λD σ H ak=>by
 let⟨ι,M,env,S,E,h⟩:=ak;refine⟨ι,M,env,S,E,?_⟩;unfold aG at h;cases q:f env M with
 | ok d M1=>
  rw[q]at h;cases d with
  |bl k=>
   intro H1 ι1 x1 S1;cases k with
   |true=>rw[c_ J];exact⟨ι1,M1,env,S1,E.mono x1,h.up x1⟩|false=>rw[d4 aaA];exact⟨ι1,M1,env,S1,E.mono x1,h.up x1⟩
  |_=>cases h
 |exc x M1=>rw[q]at h;cases h|bad=>rw[q]at h;cases h
def bU(h:C3 X e f):CS X (.Return (O e) pos) (aM f):=(Pp h).imp λD σ H ak=>by
 let⟨ι,M,env,S,E,h⟩:=ak;refine⟨ι,M,env,S,E,?_⟩;unfold aM at h;cases q:f env M with
 |ok d M1=>rwa[q]at h|exc x M1=>rw[q]at h;cases h|bad=>rw[q]at h;cases h
def iQ(h:C3 X e f)(hs:tG e Yj pos.line X.env=pure false:=by rfl):CS X (.Expr e pos) (bC f):=(Wc h hs).imp λD σ H ak=>by
 let⟨ι,M,env,S,E,h⟩:=ak;refine⟨ι,M,env,S,E,?_⟩;unfold bC at h;cases q:f env M with
 |ok d M1=>rw[q]at h;exactλv H1 ι1 x1 S1 r1=>h σ H1 ι1 x1 S1 (E.mono x1)|exc x M1=>rw[q]at h;cases h|bad=>rw[q]at h;cases h
def aZ(i:Nat){x:aj}{pos':a_}(hN:X.N.Nodup)(he:C3 X e f)(hi:X.N[i]?=O x:=by rfl)(hx:Loc X.env.scope x:=by first|exact Or.inl rfl|exact Or.inr J)(hs:tG e (O (.Name x pos')) pos.line X.env=pure false:=by rfl)(hf:X.fn x=true\/X.env.scope.names.lookup x=O .local:=by first|exact .inl rfl|exact .inr J):CS X (.Assign [.Name x pos'] e pos) (aC i f):=(PM hN hi hx he hs hf).imp λD σ H ak=>by
 let⟨ι,M,env,S,E,h⟩:=ak;refine⟨ι,M,env,S,E,?_⟩;unfold aC at h;cases q:f env M with
 |ok d M1=>rw[q]at h;exactλv H1 ι1 x1 S1 r1=>h _ H1 ι1 x1 S1 ((E.mono x1).set i r1)|exc x M1=>rw[q]at h;cases h|bad=>rw[q]at h;cases h
def ZrT:CS X (.Break pos) WW:=Zr0.imp λD σ H ⟨ι,M,env,S,E,h⟩=>h σ H ι Ext.refl S E
end
def vI(K:Yb)(n:Nat)(F:F3):Sp:=λvs H Q _=>∃ι M ds,aF K H ι M/\aB K H ι ds vs/\ds.length=n/\au K H ι Q (F ds M)
section
variable {K:Yb} {H H':Hp} {ι ι':List Yy} {M M':b3}
mutual
theorem Rep.below:∀{d:D} {v:V},Rep K H ι d v->L3.below (B ι) d=true
 | .Z,_,_=>rfl|.bl _,_,_=>rfl|.int _,_,_=>rfl|.str _,_,_=>rfl
 | .U ds,_,h=>by let⟨a,vs,_,_,r⟩:=h.kj;exact aB.eN (ds:=ds) r|.bB ds,_,h=>by let⟨a,vs,_,_,r⟩:=h.wj;exact aB.eN (ds:=ds) r|.ref n,_,h=>by let⟨a,q,_⟩:=h.fG;exact j2 (Yg.mp q).1
theorem aB.eN:∀{ds:c9} {vs:List V},aB K H ι ds vs->L3.eN (B ι) ds=true
 |[],_,_=>rfl|d::ds,_,h=>by let⟨v,ws,_,r,q⟩:=h.cons_inv;exact Ybi.mpr ⟨Rep.below (d:=d) r,aB.eN (ds:=ds) q⟩
end
mutual
theorem Rep.cut{n:Nat}:∀{d:D} {v:V},L3.below n d=true->Rep K H ι d v->Rep K H (ι.take n) d v
 | .Z,_,_,h=>h|.bl _,_,_,h=>h|.int _,_,_,h=>h|.str _,_,_,h=>h
 | .U ds,_,hb,h=>by let⟨a,vs,rfl,s,r⟩:=h.kj;exact Rep.U s (aB.cut (ds:=ds) hb r)|.bB ds,_,hb,h=>by let⟨a,vs,rfl,s,r⟩:=h.wj;exact⟨a,vs,rfl,s,aB.cut (ds:=ds) hb r⟩|.ref k,_,hb,h=>by let⟨a,q,rfl⟩:=h.fG;refine Rep.ref ?_;rwa[yJ<|of_decide_eq_true hb]
theorem aB.cut{n:Nat}:∀{ds:c9} {vs:List V},L3.eN n ds=true->aB K H ι ds vs->aB K H (ι.take n) ds vs
 |[],_,_,h=>h|d::ds,_,hb,h=>by let⟨v,ws,rfl,r,q⟩:=h.cons_inv;exact have w:=Ybi.mp (hb:(L3.below n d&&L3.eN n ds)=true);aB.cons (Rep.cut (d:=d) w.1 r) (aB.cut (ds:=ds) w.2 q)
end
def oN.below{a:Yy}(h:oN K H ι m a):zq (B ι) m=true:=by
 cases m with
 |L xs=>let⟨vs,_,r⟩:=h;exact r.eN|qq d5=>let⟨ws,_,_,r⟩:=h;exact r.eN|dY d5=>let⟨ws,_,_,r⟩:=h;exact r.eN|ins c fs=>
  rcases h with⟨_,_,gs,_,_,_,r⟩|⟨_,_,_,_,_,rfl|⟨_,_,_,_,_,_,r⟩⟩
  .exact r.eN
  .rfl
  .exact r.eN
def oN.cut{a:Yy}(hb:zq n m=true)(h:oN K H ι m a):oN K H (ι.take n) m a:=by
 cases m with
 |L xs=>let⟨vs,q,r⟩:=h;exact⟨vs,q,r.cut hb⟩|qq d5=>let⟨ws,q,r1,r2⟩:=h;exact⟨ws,q,r1,r2.cut hb⟩|dY d5=>let⟨ws,q,r1,r2⟩:=h;exact⟨ws,q,r1,r2.cut hb⟩|ins c fs=>
  rcases h with⟨C,dx,gs,q,c,r1,r2⟩|⟨C,dd,q,z,c,h|⟨dx,o,gs,e,f,r1,r2⟩⟩
  exact .inl ⟨C,dx,gs,q,c,r1,r2.cut hb⟩;exact .inr ⟨C,dd,q,z,c,.inl h⟩;exact .inr ⟨C,dd,q,z,c,.inr ⟨dx,o,gs,e,f,r1,r2.cut hb⟩⟩
def aF.cut(S:aF K H ι M)(h:(M.take n).all (zq n)=true):aF K H (ι.take n) (M.take n):=by
 refine⟨by simp[S.len],S.nd.sublist<|Uz _ _,λk m a h1 h2=>?_⟩;have hk:k<n:=by have:=(Yg.mp h1).1;rw[lM]at this;exact Y5 this<|LO _ _
 have hb:zq n m=true:=jh.mp h m<|Ay h1;rw[yJ hk]at h1 h2;exact(S.obj k m a h1 h2).cut hb
def Xe{Q:VK}(S:aF K H ι M)(x:Ext K H ι H' ι')(S':aF K H' ι' M')(r:Rep K H' ι' d v)(h:au K H ι Q (gj M d M')):Q v H':=by
 unfold gj at h;split at h
 .rename_i c;simp only[gO,yS,decide_eq_true_eq]at c;have rj:(M'.take<|B M).all (zq<|B M)=true:=by
   rcases c.2 with e|e
   .rw[e,jh];intro m hm;let⟨n,hn⟩:=Ut hm;let⟨a,q,w⟩:=S.at hn;rw[<-S.len];exact w.below
   .exact e
  refine h v H' (ι'.take<|B M) ⟨x.U,x.bB,λn a q=>?_,x.cY⟩ (S'.cut rj)<|r.cut c.1;rw[yJ (by rw[<-S.len];exact(Yg.mp q).1)];exact x.pre n a q
 .exact h v H' ι' x S' r
end
def bT.start(r:aB K H ι ds vs)(n:Nat):bT K H ι (ds.map O++Yq n Yj) (vs.map O++Yq n Yj):=by
 refine⟨by simp[r.length],λi d h=>?_⟩;by_cases hi:i<ds.length
 .rw[Yk (by simpa using hi),jg]at h;cases q:ds[i]? with
  |none=>rw[q]at h;simp at h|some d'=>rw[q]at h;simp at h;subst h;let⟨v,e,z⟩:=r.get q;refine⟨v,?_,z⟩;rw[Yk (by simpa[r.length]using hi),jg,e];rfl
 .rw[uW (by simpa using hi),Nu]at h;split at h<;>simp at h
variable{ps:List aj}
section
variable {P:Y9} {w:aQ} {K:Yb} {mg:aj->Option Yh} {base:aH}
theorem Xf{x qual:aj}{f:Yy}{fd:lJ}{N:List aj}{k:Nat}(F:rG K x qual st f fd)(S:dN N ps (bJ st))(hb:∀(j0:Yh) (A:bG) (outer:List dz) (s:Yl) (H:Hp) (E:XK),dM k (A.deeper<|nZ qual (bJ st) (c6 s) f j0)->pU (qI m_ P w K mg base N qual (bJ st) f j0 A outer s H E).jP (jz st) body):
  h_ P w K mg base m_ (k+1) f fd ps (vI K (B ps)<|cR (B ps) (B N) body):=by
 refine F.ok S (λvs H Q E ⟨ι,M,ds,_,r,l,_⟩=>by rw[r.length,l]) λj0 A outer s H vs Q E hr ak=>?_;let⟨ι,M,ds,SR,r,l,h⟩:=ak;refine⟨_,hb j0 A outer s H E hr,ι,M,ds.map O++Yq (B N-B ps) Yj,SR,?_,?_⟩
 .have e:L2.start N vs=vs.map O++Yq (B N-B ps) Yj:=by unfold L2.start;rw[r.length,l]
  rw[e];exact bT.start r _
 .unfold cR at h;rw[c_ l]at h;cases q:body (ds.map O++Yq (B N-B ps) Yj) M with
  |nx env' M'=>rw[q]at h;exactλσ' H' ι' x S' E'=>Xe SR x S' Rep.Z h|rt d M'=>rw[q]at h;exactλv H' ι' x S' r'=>Xe SR x S' r' h|bk _ _=>rw[q]at h;cases h|ct _ _=>rw[q]at h;cases h
  |exc _ _=>rw[q]at h;cases h|bad=>rw[q]at h;cases h
def aY(P:Y9)(w:aQ)(K:Yb)(mg:aj->Option Yh)(base:aH)(k:Nat)(x:aj)(ps:List aj)(F:F3):Prop:=(∀ds M,B ds≠B ps->F ds M= .bad)/\∃f fd,mg x=O (.ref f)/\sZ K (.ref f)=true/\Binds K fd ps []/\h_ P w K mg base m_ k f fd ps (vI K (B ps) F)
def gm(K:Yb)(mg:aj->Option Yh)(x:aj)(st:Ydv)(ps:List aj):Prop:=∃f fd,rG K x x st f fd/\mg x=O (.ref f)/\Binds K fd ps []
def aY.mono{j k:Nat}{x:aj}(h:aY P w K mg base j x ps F)(l:j<=k):aY P w K mg base k x ps F:=let⟨n,f,fd,a,b,c,d⟩:=h;⟨n,f,fd,a,b,c,d.mono l⟩
theorem aY.of{x:aj}{N:List aj}{k:Nat}(d:gm K mg x st ps)(S:dN N ps (bJ st))(hb:∀(f:Yy) (j0:Yh) (A:bG) (outer:List dz) (s:Yl) (H:Hp) (E:XK),dM k (A.deeper<|nZ x (bJ st) (c6 s) f j0)->pU (qI m_ P w K mg base N x (bJ st) f j0 A outer s H E).jP (jz st) body):
  aY P w K mg base (k+1) x ps (cR (B ps) (B N) body):=by
 let⟨f,fd,F,m,bi⟩:=d;exact⟨λds M h=>d4 h,f,fd,m,F.kp,bi,Xf F S<|hb f⟩
end
section
variable {X:Cx} {e:Expr} {es:List Expr} {pos p:a_} {gl:d_} {x:aj} {k:Nat} {ps:List aj} {F:F3}
def cT(G:aY X.prog X.w X.K X.mg X.base k x ps F)(hr:dM k X.A)(ha:CA X (e::es) gl)(hg:Gl X x:=by rfl)(sd:(x==("__debug__":aj))=false:=by decide)(he:Yv (e::es) X.env=(false,aO e X.env)::Yv es X.env:=by rfl)(qv:(b8 pos<|Yv es X.env).any (·.1)=false:=by rfl):C3 X (.Call (.Name x p) (e::es) [] pos) (aJ F gl):=by
 let⟨hn,f,fd,m,kp,bi,ok⟩:=G;refine(ZuA ok hr hg m kp bi .nil So ha sd he qv).imp λσ H Q ak=>?_;let⟨ι,M,env,S,E,h⟩:=ak;let⟨ds,M1,e1,h⟩:=au.bind h;refine⟨ι,M,env,S,E,?_⟩;rw[e1];intro vs H1 ι1 x1 S1 r1;have hl:B ds=B ps:=by refine OD λq=>?_;rw[hn ds M1 q]at h;cases h
 exact⟨ι1,M1,ds,S1,by rw[iD];exact r1,hl,h.up x1⟩
end
def tGf(K:Yb)(g:G3):TG:=λv σ H Q=>∃ι M env d env',aF K H ι M/\bT K H ι env σ/\Rep K H ι d v/\g d env=O env'/\∀σ',bT K H ι env' σ'->Q σ' H
def tGs(K:Yb)(is:b9):t6:=λvs σ H Q=>∃ι M env ds env',aF K H ι M/\bT K H ι env σ/\aB K H ι ds vs/\bindAll is ds env=O env'/\∀σ',bT K H ι env' σ'->Q σ' H
def CG(X:Cx)(tg:Expr)(g:G3):Prop:=PG X tg<|tGf X.K g
def JF(X:Cx)(tg:List Expr)(is:b9):Prop:=t7 X tg<|tGs X.K is
def PG.imp{t t':TG}(h:PG X e t)(i:∀v σ H Q,t' v σ H Q->t v σ H Q):PG X e t':=λb4 s σ H v u Q I r q=>h b4 s σ H v u Q I r<|i v σ H Q q
def t7.imp{e:List Expr}{t t':t6}(h:t7 X e t)(i:∀v σ H Q,t' v σ H Q->t v σ H Q):t7 X e t':=λb4 s σ H v u Q I r q=>h b4 s σ H v u Q I r<|i v σ H Q q
section
variable {X:Cx} {e:Expr} {es:List Expr} {pos:a_}
def nC(i:Nat){x:aj}(hN:X.N.Nodup)(hi:X.N[i]?=O x:=by rfl)(hx:Loc X.env.scope x:=by first|exact Or.inl rfl|exact Or.inr J)(hf:X.fn x=true\/X.env.scope.names.lookup x=O .local:=by first|exact .inl rfl|exact .inr J):CG X (.Name x pos) (cV i):=PG.imp (PD hN hi hx hf) λv σ H Q ak=>by let⟨ι,M,env,d,env',S,E,r,q,h⟩:=ak;cases q;exact h _<|E.set i r
def FW:JF X [] []:=t7.imp Zvj λv σ H Q ak=>by
 let⟨ι,M,env,ds,env',S,E,r,q,h⟩:=ak;cases ds with
 |nil=>cases q;exact⟨r.nil_inv,h σ E⟩|cons d ds=>cases q
def pW(i:Nat){is:b9}{x:aj}(hN:X.N.Nodup)(ht:JF X es is)(hi:X.N[i]?=O x:=by rfl)(hx:Loc X.env.scope x:=by first|exact Or.inl rfl|exact Or.inr J)(hf:X.fn x=true\/X.env.scope.names.lookup x=O .local:=by first|exact .inl rfl|exact .inr J)(hs:(kJ (.Name x pos::es) X.env).map (·.2)=kW (.Name x pos) X.env::(kJ es X.env).map (·.2):=by rfl):
  JF X (.Name x pos::es) (i::is):=t7.imp (ZtJ (PD hN hi hx hf) ht hs) λv σ H Q ak=>by
 let⟨ι,M,env,ds,env',S,E,r,q,h⟩:=ak;cases ds with
 |nil=>cases q|cons d ds=>let⟨v,ws,rfl,r1,r2⟩:=r.cons_inv;exact⟨v,ws,rfl,ι,M,env.set i<|O d,ds,env',S,E.set i r1,r2,q,h⟩
def Qk{is:b9}{k:Nat}(hc:X.calm=true)(h:JF X es is)(hl:B es=B is:=by rfl)(hn:(kJ es X.env).length=B is:=by rfl)(r_:(kJ es X.env).findIdx? (·.1)=Yj:=by rfl):CG X (.Tuple es k pos) (oH is):=
 PG.imp (ZxQ (n:=B is) hc h hn r_) λv σ H Q ak=>by
  let⟨ι,M,env,d,env',S,E,r,q,h⟩:=ak;cases d with
  | U ds=>
   let⟨a,vs,rfl,s,r⟩:=r.kj;have hlen:∀(is:b9) (ds:c9) (env env':bO),bindAll is ds env=O env'->B ds=B is:=by
    intro is
    induction is with
    |nil=>intro ds env env' h;cases ds with|nil=>rfl|cons d ds=>cases h
    |cons i is ih=>intro ds env env' h;cases ds with|nil=>cases h|cons d ds=>simp[ih ds _ _ h]
   exact⟨a,vs,rfl,s,by rw[r.length];exact hlen _ _ _ _ q,ι,M,env,ds,env',S,E,r,q,h⟩
  |_=>cases q
end
def ul(K:Yb)(H:Hp)(ι:List Yy)(it:ir)(i4:It):Prop:=∀(i:Nat) H2 ι2 M2,Ext K H ι H2 ι2->aF K H2 ι2 M2->locked it M2=true ->
 (∀d,it.items[i]?=O d->i4.go i H2/\∀x H3,i4.Pn i H2 x H3->H3=H2/\Rep K H2 ι2 d x)/\(i=B it.items->i4.stop i H2)
def FZ(K:Yb)(H:Hp)(ι:List Yy)(R:It->Hp->Prop)(r:R3 ir):Prop:=match r with
 | .ok it M'=>∀i4 H' ι',Ext K H ι H' ι'->aF K H' ι' M'->ul K H' ι' it i4->R i4 H'|_=>False
def V_(K:Yb)(g:I3):TI:=λσ H R=>∃ι M env,aF K H ι M/\bT K H ι env σ/\FZ K H ι R (g env M)
def CI(X:Cx)(tg e:Expr)(g:I3):Prop:=PI X tg e<|V_ X.K g
def PI.imp{tg:Expr}{t t':TI}(h:PI X tg e t)(i:∀σ H Q,t' σ H Q->t σ H Q):PI X tg e t':=λb4 s σ H Q I q=>h b4 s σ H Q I<|i σ H Q q
def PI.or{tg:Expr}{t t':TI}(h:PI X tg e t)(h':PI X tg e t'):PI X tg e (λσ H R=>t σ H R\/t' σ H R):=λb4 s σ H Q I q=>q.elim (h b4 s σ H Q I)<|h' b4 s σ H Q I
def FZ.bind{Q:It->Hp->Prop}{r:R3 α}{k:α->b3->R3 ir}(h:FZ K H ι Q (r.bind k)):∃a M,r= .ok a M/\FZ K H ι Q (k a M):=by
 cases r with
 |ok a M=>exact⟨a,M,rfl,h⟩|exc x M=>cases h|bad=>cases h
section
variable {X:Cx} {tg e a b:Expr} {pos p:a_} {f g:E3}
def Zx8(h:C3 X e f)(hs:PI X tg e (λσ H R=>oO X.K f σ H λx H1=>∃z:aj,x= .str z/\z.length<=SZ/\∀i4,(∀ι,ul X.K H1 ι ⟨z.cps.toList.map λc=>.str [c],Yj⟩ i4)->R i4 H1)):CI X tg e (eG f):=
 PI.imp (PI.or (Zw2 h)<|PI.or (ZuX h) hs) λσ H R ak=>by
  let⟨ι,M,env,S,E,h⟩:=ak;let⟨d,M1,e1,h⟩:=FZ.bind h;cases d with
  |U ds=>refine .inl ⟨ι,M,env,S,E,?_⟩;rw[e1];intro v H1 ι1 x1 S1 r1;let⟨a,vs,rfl,s,r⟩:=r1.kj;refine⟨a,rfl,⟨vs,s⟩,h _ H1 ι1 x1 S1 ?_⟩;intro i H2 ι2 M2 x S2 _;refine⟨λd hd=>?_,λhl=>⟨vs,x.U _ _ s,by rw[r.length,hl];exact Yu _⟩⟩;let⟨v,hv,rv⟩:=r.get hd;refine⟨⟨vs,v,x.U _ _ s,hv⟩,λy H3 hy=>⟨hy.1,?_⟩⟩;have e:=hy.2 vs<|x.U _ _ s;rw[hv]at e;cases e;exact rv.mono x|bB ds=>refine .inr<|.inl ⟨ι,M,env,S,E,?_⟩;rw[e1];intro v H1 ι1 x1 S1 r1;let⟨a,vs,rfl,s,r⟩:=r1.wj;refine⟨a,rfl,⟨vs,s.sq⟩,h _ H1 ι1 x1 S1 ?_⟩;intro i H2 ι2 M2 x S2 _;refine⟨λd hd=>?_,λhl=>⟨vs,(x.bB _ _ s).sq,by rw[r.length,hl];exact Yu _⟩⟩;let⟨v,hv,rv⟩:=r.get hd;refine⟨⟨vs,v,(x.bB _ _ s).sq,hv⟩,λy H3 hy=>⟨hy.1,?_⟩⟩;have e:=hy.2 vs (x.bB _ _ s).sq;rw[hv]at e;cases e;exact rv.mono x|ref n=>
   refine .inr<|.inl ⟨ι,M,env,S,E,?_⟩;rw[e1];intro v H1 ι1 x1 S1 r1;cases hm:M1[n]? with
   |none=>simp only[hm]at h;cases h|some o=>
    cases o with
    |qq d5=>simp only[hm]at h;cases h|dY d5=>simp only[hm]at h;cases h|ins _ _=>simp only[hm]at h;cases h|L ds=>simp only[hm]at h;let⟨a,ha,rfl⟩:=r1.fG;let⟨vs,q,r⟩:=S1.obj n _ a hm ha;refine⟨a,rfl,⟨vs,bV.of q⟩,h _ H1 ι1 x1 S1 ?_⟩;intro i H2 ι2 M2 x S2 lk;have JG:M2[n]?=O (.L ds):=of_decide_eq_true lk;let⟨vk,q2,r2⟩:=S2.obj n _ a JG<|x.pre _ _ ha;refine⟨λd hd=>?_,λhl=>⟨vk,bV.of q2,by rw[r2.length,hl];exact Yu _⟩⟩;let⟨v,hv,rv⟩:=r2.get hd;refine⟨⟨vk,v,bV.of q2,hv⟩,λy H3 hy=>⟨hy.1,?_⟩⟩;have e:=hy.2 vk<|bV.of q2;rw[hv]at e;cases e;exact rv
  | str z=>
   refine .inr<|.inr ⟨ι,M,env,S,E,?_⟩;rw[e1];intro v H1 ι1 x1 S1 r1;have hv:=r1.str_inv;subst hv;by_cases hz:z.length<=SZ
   .simp only[c_ hz]at h;refine⟨_,rfl,by simpa[n6]using hz,λi4 abu=>h i4 H1 ι1 x1 S1 ?_⟩;simpa using abu ι1
   .simp only[d4 hz]at h;cases h
  |Z=>cases h|bl b=>cases h|int i=>cases h
def ZsM(lo:Int)(n:Nat):ul K H ι ⟨lW lo n,Yj⟩ (Pr lo n):=by
 intro i H2 ι2 M2 x S _;refine⟨λd hd=>?_,λhl=>?_⟩
 .unfold lW at hd;rw[jg]at hd;cases q:(jO n)[i]? with
  |none=>rw[q]at hd;cases hd|some k=>
   rw[q]at hd;let⟨hi,e⟩:=Yg.mp q;rw[List.getElem_range]at e;subst e;have vj:D.int (lo+(i:Int))=d:=by simpa using hd
   subst vj;exact⟨(by show i<n;simpa using hi),λy H3 hy=>⟨hy.1,by rw[hy.2];exact Rep.int⟩⟩
 .show n<=i;rw[hl];simp[lW]
def Ql(hm:X.mg "range" =Yj)(h:C3 X a f)(hg:Gl X "range":=by rfl)(hs:Yv [a] X.env=[(false,aO a X.env)]:=by rfl)(xi:Yv (a::[]) X.env=(false,aO a X.env)::Yv [] X.env:=by rfl):CI X tg (.Call (.Name "range" p) [a] [] pos) (ud f):=
 PI.imp (Zq4 hg hm (Zc h Zg xi) hs) λσ H R ak=>by
  let⟨ι,M,env,S,E,h⟩:=ak;let⟨d,M1,e1,h⟩:=FZ.bind h;refine⟨ι,M,env,S,E,?_⟩;have e2:Za f Ze env M= .ok [d] M1:=by unfold Za;rw[e1];rfl
  rw[e2];intro vs H1 ι1 x1 S1 r1;let⟨v,ws,rfl,r,q⟩:=r1.cons_inv;have:=q.nil_inv;subst this;cases d with
  | int j=>
   have hv:=r.int_inv;subst hv;by_cases hj:j<=1000000/\ -1000000<=j
   .simp only[c_ hj]at h;exact⟨j,rfl,b5,b5,h _ H1 ι1 x1 S1<|ZsM 0 j.toNat⟩
   .simp only[d4 hj]at h;cases h
  |_=>cases h
def JH{iter:Expr}{body:List Ydv}{i:I3}{g:G3}{u:S3}(B_:X.xe=λ_ _=>False)(hc:X.calm=true)(hi:CI X tg iter i)(hg:CG X tg g)(hb:pU X body u)(hs:∀x,Ao iter X.env x=pure x:=by intro _;rfl):
  CS X (.For tg iter body [] pos) (vB i g u):=(PV (by rw[B_];exact OI) hc hi hg hb hs).imp λD σ H ak=>by
 let⟨ι,M,env,S,E,h⟩:=ak;unfold vB at h;cases q:i env M with
 |exc x M1=>rw[q]at h;cases h|bad=>rw[q]at h;cases h|ok it M1=>
  rw[q]at h;refine⟨ι,M,env,S,E,?_⟩;rw[q];intro i4 H1 ι1 x1 S1 ok;refine⟨λi m σ2 H2=>m=B it.items-i/\i<=B it.items/\∃ι2 M2 kI,Ext X.K H1 ι1 H2 ι2/\aF X.K H2 ι2 M2/\bT X.K H2 ι2 kI σ2/\qM X.K H2 ι2 D (iz it g u (it.items.drop i) kI M2),
   ⟨_,rfl,g_ _,ι1,M1,env,Ext.refl,S1,E.mono x1,qM.up x1 h⟩,?_⟩
  rintro i m σ2 H2 ⟨rfl,hi,ι2,M2,kI,x2,S2,E2,h2⟩;by_cases j1:i<it.items.length
  .have hd:it.items[i]?=O it.items[i]:=by simp[j1]
   rw[yI j1]at h2
   first|rw[rK]at h2|rw[w6]at h2
   by_cases lk:locked it M2=true
   .rw[c_ lk]at h2;let⟨go,yl⟩:=(ok i H2 ι2 M2 x2 S2 lk).1 _ hd;cases eg:g it.items[i] kI with
    |none=>rw[eg]at h2;exact h2.elim|some Ak=>
     rw[eg]at h2;refine .inr ⟨go,λσ' H'=>∃ι3 M3 qZ,Ext X.K H2 ι2 H' ι3/\aF X.K H' ι3 M3/\bT X.K H' ι3 qZ σ'/\qM X.K H' ι3 D (iz it g u (it.items.drop<|i+1) qZ M3),
      λσ' H' ⟨ι3,M3,qZ,x3,S3,E3,h3⟩=>⟨B it.items-(i+1),b5,rfl,j1,ι3,M3,qZ,x2.trans x3,S3,E3,h3⟩,λx H' hy=>?_⟩
     let⟨rfl,rx⟩:=yl x H' hy;refine⟨ι2,M2,kI,_,Ak,S2,E2,rx,eg,λσ' E'=>⟨ι2,M2,Ak,S2,E',?_⟩⟩;cases qu:u Ak M2 with
     |nx e' M'=>simp only[qu]at h2;exactλσ' H' ι' x' S' E'=>⟨ι',M',e',x',S',E',h2.up x'⟩|ct e' M'=>simp only[qu]at h2;exactλσ' H' ι' x' S' E'=>⟨ι',M',e',x',S',E',h2.up x'⟩|bk e' M'=>simp only[qu]at h2;exact h2|rt d M'=>simp only[qu]at h2;exact h2
     |exc x' M'=>simp only[qu]at h2;exact h2.elim|bad=>simp only[qu]at h2;exact h2.elim
   .rw[d4 lk]at h2;exact h2.elim
  .have e0:i=B it.items:=fY hi<|k_ j1;subst e0;rw[NZ]at h2
   first|rw[rK]at h2|rw[w6]at h2
   by_cases lk:locked it M2=true
   .rw[c_ lk]at h2;exact .inl ⟨(ok _ H2 ι2 M2 x2 S2 lk).2 J,h2 σ2 H2 ι2 Ext.refl S2 E2⟩
   .rw[d4 lk]at h2;exact h2.elim
def UN{c1:Expr}{body:List Ydv}{u:S3}(B_:X.xe=λ_ _=>False)(hc:CT X c1 f)(hb:pU X body u):CS X (.While c1 body [] pos) (WX f u):=(Zts (by rw[B_];exact OI) hc hb).imp λD σ H ak=>by
 let⟨ι,M,env,S,E,h⟩:=ak;refine⟨λm σ2 H2=>∃ι2 M2 kI,aF X.K H2 ι2 M2/\bT X.K H2 ι2 kI σ2/\qM X.K H2 ι2 D (vC f u m kI M2),⟨1000000,ι,M,env,S,E,h⟩,?_⟩;rintro m σ2 H2 ⟨ι2,M2,kI,S2,E2,h2⟩;cases m with
 |zero=>exact h2.elim|succ m=>
  refine⟨ι2,M2,kI,S2,E2,?_⟩;rw[Fx]at h2;cases q:f kI M2 with
  |exc x M1=>rw[q]at h2;exact h2.elim|bad=>rw[q]at h2;exact h2.elim|ok d M1=>
   rw[q]at h2;cases d with
   | bl k=>
    cases k with
    |false=>intro H3 ι3 x3 S3;rw[d4 aaA];exact h2 σ2 H3 ι3 x3 S3 (E2.mono x3)|true=>
     intro H3 ι3 x3 S3;rw[c_ J];refine⟨λσ' H'=>∃ι4 M4 qZ,aF X.K H' ι4 M4/\bT X.K H' ι4 qZ σ'/\qM X.K H' ι4 D (vC f u m qZ M4),λσ' H' q=>⟨m,Es _,q⟩,ι3,M1,kI,S3,E2.mono x3,?_⟩;have h3:=qM.up x3 h2;cases qu:u kI M1 with
     |nx e' M'=>simp only[qu]at h3;exactλσ' H' ι' x' S' E'=>⟨ι',M',e',S',E',h3.up x'⟩|ct e' M'=>simp only[qu]at h3;exactλσ' H' ι' x' S' E'=>⟨ι',M',e',S',E',h3.up x'⟩|bk e' M'=>simp only[qu]at h3;exact h3|rt d M'=>simp only[qu]at h3;exact h3
     |exc x' M'=>simp only[qu]at h3;exact h3.elim|bad=>simp only[qu]at h3;exact h3.elim
   |_=>exact h2.elim
end
def Rep.UO(r:Rep K H ι d v):decide (v=V.Z)=decide (d=D.Z):=by
 cases d with
 |Z=>rw[r.kh];rfl|bl b=>rw[r.iW];rfl|int i=>rw[r.int_inv];rfl|str x=>rw[r.str_inv];rfl
 |U ds=>let⟨a,vs,e,_⟩:=r.kj;rw[e];rfl|bB ds=>let⟨a,vs,e,_⟩:=r.wj;rw[e];rfl|ref n=>let⟨a,_,e⟩:=r.fG;rw[e];rfl
def UP{x y:b9}:decide (V.str ⟨kb x⟩=V.str ⟨kb y⟩)=(x==y):=by
 by_cases h:x=y
 .subst h;simp
 .rw[j3 λe=>h (by injection e with e1;injection e1 with e2;simpa using congrArg Ez e2)]
  exact(beq_eq_false_iff_ne.mpr h).symm
section
variable {X:Cx}
def ZsT:bA X (jM .Add) (λx y H Q=>∃a b ys,x= .ref a/\y= .ref b/\dJ X.K H a []/\dJ X.K H b ys/\Q (.ref b) H):=by
 intro b4 s σ H x y v u Q I rx ry h;let⟨a,b,ys,rfl,rfl,ha,hb,q⟩:=h;cases rx;cases ry;let⟨b6,r1,p1,_⟩:=I.tuple ha;let⟨p5,r2,p2,_⟩:=I.tuple hb;cases r1;let⟨⟨cls,dd,data,sl⟩,ho,hc,n,hd⟩:=id p1;let⟨⟨DC,B1,data2,B3⟩,zS,uA,n2,hd2⟩:=id p2;simp only at hc hd uA hd2;subst hc hd uA hd2;exact Ua ⟨_,ho,rfl⟩ ⟨_,zS,rfl⟩ TX T9 Vt Vr (Vq _ _)
   (tuple_addW0 a b _ p5.toArray n n2 dd B1 sl B3 i9) ⟨ho,zS,⟨.ref b,H,I,rfl,q⟩⟩
def ZvC(x y:b9):(⟨kb x⟩:aj)++⟨kb y⟩=⟨(x++y).toArray⟩:=by show Str.append _ _=_;unfold Str.append;simp
def zF(o:Option D)(f:D->R3 D):R3 D:=match o with
 |some d=>f d|none=>.bad
def JK{Q:VK}{o:Option D}{f:D->R3 D}(h:au K H ι Q (zF o f)):∃x,o=O x/\au K H ι Q (f x):=by
 cases o with
 |none=>cases h|some x=>exact⟨x,rfl,h⟩
def UQ(o:Option Nat)(f:Nat->R3 D):R3 D:=match o with
 |some d=>f d|none=>.bad
def Zu1{Q:VK}{o:Option Nat}{f:Nat->R3 D}(h:au K H ι Q (UQ o f)):∃x,o=O x/\au K H ι Q (f x):=by
 cases o with
 |none=>cases h|some x=>exact⟨x,rfl,h⟩
def Ca(o:Option MO)(f:c9->R3 D):R3 D:=match o with
 |some (.L x)=>f x|_=>.bad
def Qm{Q:VK}{o:Option MO}{f:c9->R3 D}(h:au K H ι Q (Ca o f)):∃x,o=O (.L x)/\au K H ι Q (f x):=by
 cases o with
 |none=>cases h|some o=>cases o with
  |L x=>exact⟨x,rfl,h⟩|_=>cases h
def UR(a b:Option MO)(f:c9->c9->R3 D):R3 D:=match a,b with
 |some (.L x),O (.L y)=>f x y|_,_=>.bad
def Ztk{Q:VK}{a b:Option MO}{f:c9->c9->R3 D}(h:au K H ι Q (UR a b f)):∃x y,a=O (.L x)/\b=O (.L y)/\au K H ι Q (f x y):=by
 cases a with
 |none=>cases h|some a=>cases a with
  | L x=>cases b with
   |none=>cases h|some b=>cases b with
    |L y=>exact⟨x,y,rfl,rfl,h⟩|_=>cases h
  |_=>cases h
def zG{Q:VK}{c:Prop}{_:Decidable c}(h:au K H ι Q (if c then r else .bad)):c/\au K H ι Q r:=by
 by_cases hc:c
 .rw[c_ hc]at h;exact⟨hc,h⟩
 .rw[d4 hc]at h;cases h
def US(r:aB K H ι ds []):ds=[]:=Nt r.length.symm
def bW:bA X (jM .Add) (r2 X.K Zv):=bA.imp (bA.or Zxl<|bA.or Zog<|bA.or Zxj<|bA.or ZuE ZsT) λx y H Q ak=>by
 let⟨ι,M,a,b,S,ra,rb,h⟩:=ak;cases a with
 |int i=>cases b with
  |int j=>exact .inl ⟨i,j,ra.int_inv,rb.int_inv,au.ok h S Rep.int⟩|_=>cases h
 | str x=>cases b with
  |str y=>let⟨hz,h⟩:=zG h;exact .inr (.inl ⟨_,_,ra.str_inv,rb.str_inv,Yi hz mC,by rw[ZvC];exact au.ok h S Rep.str⟩)|_=>cases h
 | U x=>cases b with
  | U y=>
   let⟨hz,h⟩:=zG h;let⟨p,vs,e,s,r⟩:=ra.kj;let⟨q,ws,e',s',r'⟩:=rb.kj;by_cases hv:vs=[]
   .rw[hv]at r s;rw[US r]at h;exact .inr<|.inr<|.inr<|.inr ⟨p,q,ws,e,e',s,s',au.ok h S<|Rep.U s' r'⟩
   .refine .inr (.inr<|.inr<|.inl ⟨p,q,vs,ws,e,e',s,s',hv,by rw[r.length,r'.length];exact Yi hz mC,λhw=>?_,λhw p' hp=>?_⟩)
    .rw[hw]at r';rw[US r',iD]at h;exact au.ok h S<|Rep.U s r
    .let⟨x2,S2,r2⟩:=S.wz hp<|r.append r';exact h _ _ _ x2 S2 r2
  |_=>cases h
 | ref n=>cases b with
  |ref m=>have h:au X.K H ι Q (UR M[n]? M[m]? λx y=>@ite _ (x.length+y.length<=SZ) (Yz _) (alloc (.L<|x++y) M) .bad):=h;let⟨x,y,hn,hm,h⟩:=Ztk h;let⟨hz,h⟩:=zG h;let⟨p,hp,e⟩:=ra.fG;let⟨q,hq,e'⟩:=rb.fG;let⟨vs,e1,r1⟩:=S.obj n _ p hn hp;let⟨ws,e2,r2⟩:=S.obj m _ q hm hq;refine .inr (.inr<|.inl ⟨p,q,vs,ws,e,e',e1,e2,by rw[r1.length,r2.length];exact Yi hz mC,λp' hp'=>?_⟩);let⟨x2,S2,r3⟩:=S.L hp'<|r1.append r2;exact h _ _ _ x2 S2 r3|_=>cases h
 |_=>cases b<;>cases h
def vJ:bA X (jM .Sub) (r2 X.K iu):=bA.imp Zwq λx y H Q ak=>by let⟨ι,M,a,b,S,ra,rb,h⟩:=ak;cases a<;>cases b<;>first|cases h|exact⟨_,_,ra.int_inv,rb.int_inv,au.ok h S Rep.int⟩
def bY:bA X (jM .Mod) (r2 X.K Zx):=bA.imp ZwA λx y H Q ak=>by
 let⟨ι,M,a,b,S,ra,rb,h⟩:=ak;cases a with
 | int i=>cases b with
  | int j=>
   simp only[SI]at h;split at h
   .rename_i hj;exact⟨i,j,ra.int_inv,rb.int_inv,hj,au.ok h S Rep.int⟩
   .exact h.elim
  |_=>cases h
 |_=>cases b<;>cases h
def di:bA X (jM .FloorDiv) (r2 X.K Zw):=bA.imp ZvA λx y H Q ak=>by
 let⟨ι,M,a,b,S,ra,rb,h⟩:=ak;cases a with
 | int i=>cases b with
  | int j=>
   simp only[SK]at h;split at h
   .rename_i hj;exact⟨i,j,ra.int_inv,rb.int_inv,hj,au.ok h S Rep.int⟩
   .exact h.elim
  |_=>cases h
 |_=>cases b<;>cases h
def ZzC:bA X (jM .Pow) (r2 X.K Qa):=bA.imp ZxX λx y H Q ak=>by
 let⟨ι,M,a,b,S,ra,rb,h⟩:=ak;cases a with
 | int i=>cases b with
  | int j=>
   simp only[SO]at h;split at h
   .rename_i hj;exact⟨i,j,ra.int_inv,rb.int_inv,⟨hj.1,b5,by have:=hj.2.2;omega⟩,au.ok h S Rep.int⟩
   .exact h.elim
  |_=>cases h
 |_=>cases b<;>cases h
def lY:wV X (Nm .USub) (r1 X.K cU):=wV.imp ZwZ λx H Q ak=>by
 let⟨ι,M,a,S,ra,h⟩:=ak;cases a with
 |int i=>exact⟨i,ra.int_inv,au.ok h S Rep.int⟩|_=>cases h
def xG:bA X (gM .Lt) (r2 X.K eE):=bA.imp ZzY λx y H Q ak=>by let⟨ι,M,a,b,S,ra,rb,h⟩:=ak;cases a<;>cases b<;>first|cases h|exact⟨_,_,ra.int_inv,rb.int_inv,au.ok h S Rep.bl⟩
def Xg:bA X (gM .LtE) (r2 X.K pI):=bA.imp ZyM λx y H Q ak=>by let⟨ι,M,a,b,S,ra,rb,h⟩:=ak;cases a<;>cases b<;>first|cases h|exact⟨_,_,ra.int_inv,rb.int_inv,au.ok h S Rep.bl⟩
def um:bA X (gM .Gt) (r2 X.K dW):=bA.imp Zzi λx y H Q ak=>by let⟨ι,M,a,b,S,ra,rb,h⟩:=ak;cases a<;>cases b<;>first|cases h|exact⟨_,_,ra.int_inv,rb.int_inv,au.ok h S Rep.bl⟩
def JL:bA X (gM .Is) (r2 X.K pJ):=bA.imp Zwh λx y H Q ak=>by
 let⟨ι,M,a,b,S,ra,rb,h⟩:=ak;cases b with
 |Z=>exact⟨rb.kh,by rw[ra.UO];exact au.ok h S Rep.bl⟩|_=>cases h
def ZvB:bA X (gM .IsNot) (r2 X.K Jk):=bA.imp ZuF λx y H Q ak=>by
 let⟨ι,M,a,b,S,ra,rb,h⟩:=ak;cases b with
 |Z=>exact⟨rb.kh,by rw[ra.UO];exact au.ok h S Rep.bl⟩|_=>cases h
end
def units_in1(A:bG):A.in1.units=A.units+1:=rfl
variable{A:bG}{es:c9}
section
variable {X:Cx} {b4:List (Yy×aK)} {σ:St} {H:Hp} {s:Yl} {ι:List Yy}
def ZmG{e:Nat->Bool}:∀{x y:c9},x.length=y.length->(∀(j:Nat) a b,x[j]?=O a->y[j]?=O b->e j=fP a b)->(jO x.length).all e=jQ x y:=by
 intro x
 induction x generalizing e with
 |nil=>intro y h _;cases y with|nil=>rfl|cons _ _=>simp at h
 | cons a x ih=>
  intro y h he;cases y with
  |nil=>simp at h|cons b y=>rw[Yp,KI,lQ,List.all_map,he 0 a b J J];rw[WK];congr 1;exact ih (e:=e ∘ Nat.succ) (by simpa using h) λj a' b' h1 h2=>he (j+1) a' b' (by simpa using h1) (by simpa using h2)
theorem UU:∀{x y:c9},jQ x y=true->x.length=y.length
 |[],[],_=>rfl|[],_::_,h=>ft h|_::_,[],h=>ft h|a::x,b::y,h=>congrArg Nat.succ<|UU (Ybi.mp (h:(fP a b&&jQ x y)=true)).2
def Qn(h:fO 0 d=true):e_ d=true:=by cases d<;>first|exact rfl|exact h
def F_(h:fO (n+1) d=true):e_ d=true\/∃ds,d= .U ds:=by
 cases d with
 |U ds=>exact .inr ⟨ds,rfl⟩|bB _=>exact ft h|ref _=>exact ft h|_=>exact .inl J
def UX{a b:D}(fa:e_ a=true)(fb:e_ b=true)(r:Rep K H ι a v)(q:Rep K H ι b v):fP a b=true:=by
 cases a with
 |Z=>have e:=r.kh;cases b with
  |Z=>rfl|bl _=>cases e.symm.trans q.iW|int _=>cases e.symm.trans q.int_inv|str _=>cases e.symm.trans q.str_inv
  |_=>exact ft fb
 |bl x=>have e:=r.iW;cases b with
  |Z=>cases e.symm.trans q.kh|bl _=>exact beq_iff_eq.mpr (V.bl.inj<|e.symm.trans q.iW)|int _=>cases e.symm.trans q.int_inv|str _=>cases e.symm.trans q.str_inv
  |_=>exact ft fb
 |int x=>have e:=r.int_inv;cases b with
  |Z=>cases e.symm.trans q.kh|bl _=>cases e.symm.trans q.iW|int _=>exact beq_iff_eq.mpr (V.int.inj<|e.symm.trans q.int_inv)|str _=>cases e.symm.trans q.str_inv
  |_=>exact ft fb
 |str x=>have e:=r.str_inv;cases b with
  |Z=>cases e.symm.trans q.kh|bl _=>cases e.symm.trans q.iW|int _=>cases e.symm.trans q.int_inv|str _=>exact UP.symm.trans<|j2<|e.symm.trans q.str_inv
  |_=>exact ft fb
 |_=>exact ft fa
def UY{a:D}{p:Yy}(fa:e_ a=true)(r:Rep K H ι a v)(e:v= .ref p):False:=by
 cases a with
 |Z=>cases e.symm.trans r.kh|bl x=>cases e.symm.trans r.iW|int x=>cases e.symm.trans r.int_inv|str x=>cases e.symm.trans r.str_inv
 |_=>exact ft fa
def Rep.fun1(I:Inv X b4 σ H s):∀(n:Nat) (a b:D) (v:V),fO n a=true->fO n b=true->Rep X.K H ι a v->Rep X.K H ι b v->fP a b=true:=by
 intro n
 induction n with
 |zero=>intro a b v ha hb r q;exact UX (Qn ha) (Qn hb) r q|succ n ih=>
  intro a b v ha hb r q;rcases F_ ha with fa|⟨ds,ea⟩
  .rcases F_ hb with fb|⟨es,eb⟩
   .exact UX fa fb r q
   .rw[eb]at q;let⟨p,vs,e,_⟩:=q.kj;exact(UY fa r e).elim
  .rw [ea]at r ha |-;let⟨p,vs,e,s1,r1⟩:=r.kj;rcases F_ hb with fb|⟨es,eb⟩
   .exact(UY fb q e).elim
   .rw[eb]at q hb |-;let⟨p',ws,e',s2,r2⟩:=q.kj;rw[<-V.ref.inj (e.symm.trans e')]at s2;rw[<-I.Sg s1 s2]at r2;clear s1 s2 e e' q r eb ea;rw[SE];revert ha hb r1 r2
    induction ds generalizing es vs with
    |nil=>
     intro _ r1 _ r2;cases es with
     |nil=>rfl|cons _ _=>let⟨_,_,e,_⟩:=r2.cons_inv;cases r1.nil_inv.symm.trans e
    | cons d ds ih2=>
     intro h1 r1 h2 r2;let⟨v,ws,e,q1,q2⟩:=r1.cons_inv;cases es with
     |nil=>cases r2.nil_inv.symm.trans e|cons e' es=>let⟨v',AS,z,q3,q4⟩:=r2.cons_inv;let⟨z1,z2⟩:=lu<|z.symm.trans e;rw[z1]at q3;rw[z2]at q4;have g1:=Ybi.mp (h1:(fO n d&&ds.all (fO n))=true);have g2:=Ybi.mp (h2:(fO n e'&&es.all (fO n))=true);rw[WK,ih d e' v g1.1 g2.1 q1 q3];exact ih2 ws es g1.2 q2 g2.2 q4
def Ga{x:V}(r:Rep K H ι .Z x)(e:RelV x u):u= .none:=by rw[r.kh]at e;cases e;rfl
def zH{b:Bool}{x:V}(r:Rep K H ι (.bl b) x)(e:RelV x u):u= .bool b:=by rw[r.iW]at e;cases e;rfl
def zJ{i:Int}{x:V}(r:Rep K H ι (.int i) x)(e:RelV x u):∃t,u= .int i t:=by rwa[r.int_inv]at e
def zK{i:b9}{x:V}(r:Rep K H ι (.str i) x)(e:RelV x u):∃t,u= .str ⟨kb i⟩ t:=by rwa[r.str_inv]at e
inductive Xh(X:Cx)(H:Hp)(ι:List Yy)(T:Yy->Array Yh->Prop)(ds:c9)(x:V)(u:Yh):Prop
 |mk (p:Yy) (vs:List V) (b6:List Yh):x= .ref p->u= .ref p->T p b6.toArray->aB X.K H ι ds vs->Vals vs b6->Xh X H ι T ds x u
def Gb(I:Inv X b4 σ H s){x:V}(r:Rep X.K H ι (.U ds) x)(e:RelV x u):Xh X H ι s.heap.IsTuple ds x u:=by let⟨p,vs,ex,s1,r1⟩:=r.kj;let⟨b6,uC,ht,_⟩:=I.tuple s1;rw[ex]at e;exact⟨p,vs,b6,ex,e,ht,r1,uC⟩
def Wj{i k:b9}:decide (i=k)=((⟨kb i⟩:aj)==⟨kb k⟩):=by
 rw[<-Og,<-UP];by_cases h:(⟨kb i⟩:aj)=⟨kb k⟩
 .rw[h,beq_self_eq_true];exact j2 J
 .rw[beq_eq_false_iff_ne.mpr h];exact j3 λe=>h<|V.str.inj e
def ZuR{i k:b9}:fP (.str i) (.str k)=((⟨kb i⟩:aj)==⟨kb k⟩):=yW (show(i==k)=decide (i=k)from Og i k) Wj
def Xi(A:bG)(a b:D)(x y:V)(u v:Yh)(ha:e_ a=true)(hb:e_ b=true)(ra:Rep X.K H ι a x)(rb:Rep X.K H ι b y)(ru:RelV x u)(rv:RelV y v):wO A s u v (fP a b):=by
 cases a with
 |Z=>rw[Ga ra ru];cases b with
  |Z=>rw[Ga rb rv];exact VH _|bl k=>rw[zH rb rv];exact NO _|int k=>let⟨t,e⟩:=zJ rb rv;rw[e];exact NU _ _|str k=>let⟨t,e⟩:=zK rb rv;rw[e];exact NV _ _
  |_=>exact ft hb
 |bl i=>rw[zH ra ru];cases b with
  |Z=>rw[Ga rb rv];exact NR _|bl k=>rw[zH rb rv];exact NS _ _|int k=>let⟨t,e⟩:=zJ rb rv;rw[e];exact NW _ _ _|str k=>let⟨t,e⟩:=zK rb rv;rw[e];exact NX _ _ _
  |_=>exact ft hb
 |int i=>let⟨t0,e0⟩:=zJ ra ru;rw[e0];cases b with
  |Z=>rw[Ga rb rv];exact NY _ _|bl k=>rw[zH rb rv];exact N0 _ _ _|int k=>let⟨t,e⟩:=zJ rb rv;rw[e];exact N3 _ _ _ _|str k=>let⟨t,e⟩:=zK rb rv;rw[e];exact VG _ _ _ _
  |_=>exact ft hb
 |str i=>let⟨t0,e0⟩:=zK ra ru;rw[e0];cases b with
  |Z=>rw[Ga rb rv];exact N1 _ _|bl k=>rw[zH rb rv];exact N2 _ _ _|int k=>let⟨t,e⟩:=zJ rb rv;rw[e];exact O4 _ _ _ _|str k=>let⟨t,e⟩:=zK rb rv;rw[e,ZuR];exact N4 _ _ _ _
  |_=>exact ft hb
 |_=>exact ft ha
def JM(ds es:c9)(j:Nat):Bool:=match ds[j]?,es[j]? with|some a,O b=>fP a b|_,_=>false
def UZ(hl:B ds≠B es):jQ ds es=false:=by
 cases q:jQ ds es with
 |false=>rfl|true=>exact k9 (UU q) hl
def U1(hn:n=B ds)(hl:B ds=B es):(jO n).all (JM ds es)=jQ ds es:=by rw[hn];exact ZmG hl λj a b h1 h2=>by unfold JM;rw[h1,h2]
def U2{m:Nat}(hn:n=B ds)(hm:m=B es):((jO<|gw n m).all (JM ds es)&&n==m)=jQ ds es:=by
 by_cases hl:B ds=es.length
 .have e:n=m:=hn.trans<|hl.trans hm.symm;rw[<-e,Nat.min_self,beq_self_eq_true,Oi];exact U1 hn hl
 .rw[UZ hl,beq_eq_false_iff_ne.mpr λe=>hl<|hn.symm.trans<|e.trans hm,mj]
def qO{b6:List Yh}(r:aB X.K H ι ds vs)(v:Vals vs b6):b6.toArray.size=B ds:=Yt.trans<|v.length.symm.trans r.length
def Xj{ws:List V}{b6 p5:List Yh}(ih:∀(a b:D) (x y:V) (u v:Yh),fO n a=true->fO n b=true->Rep X.K H ι a x->Rep X.K H ι b y->RelV x u->RelV y v->wO A s u v (fP a b))(p1:ds.all (fO n)=true)(p2:es.all (fO n)=true)(r1:aB X.K H ι ds vs)(r2:aB X.K H ι es ws)(v1:Vals vs b6)(v2:Vals ws p5)(j:Nat)(h1:j<b6.toArray.size)(h2:j<p5.toArray.size):wO A s b6.toArray[j] p5.toArray[j] (JM ds es j):=by
 have k1:j<B ds:=by rwa[<-qO r1 v1]
 have k2:j<B es:=by rwa[<-qO r2 v2]
 have q1:=Y0 k1;have q2:=Y0 k2;let⟨x,g1,z1⟩:=r1.get q1;let⟨y,g2,z2⟩:=r2.get q2;let⟨u,e1,l1⟩:=v1.get g1;let⟨v,e2,l2⟩:=v2.get g2;unfold JM;rw[q1,q2];let⟨_,e1⟩:=Yg.mp e1;let⟨_,e2⟩:=Yg.mp e2;exact ih _ _ x y _ _ (jh.mp p1 _<|tO k1) (jh.mp p2 _<|tO k2) z1 z2 (e1▸l1)<|e2▸l2
def VA(A:bG)(sr:A.units<lK){a:D}{x:V}{p:Yy}{b6:Array Yh}(ha:e_ a=true)(ra:Rep X.K H ι a x)(ru:RelV x u)(it:s.heap.IsTuple p b6):wO A s u (.ref p) (fP a<|.U es)/\wO A s (.ref p) u (fP (.U es) a):=by
 cases a with
 |Z=>rw[Ga ra ru];exact⟨SeqAt.EqAt.none_tuple it sr,SeqAt.EqAt.tuple_none it sr⟩|bl k=>rw[zH ra ru];exact⟨SeqAt.EqAt.bool_tuple _ it sr,SeqAt.EqAt.tuple_bool _ it sr⟩|int k=>let⟨t,e⟩:=zJ ra ru;rw[e];exact⟨SeqAt.EqAt.int_tuple _ _ it sr,SeqAt.EqAt.tuple_int _ _ it sr⟩|str k=>let⟨t,e⟩:=zK ra ru;rw[e];exact⟨SeqAt.EqAt.str_tuple _ _ it sr,SeqAt.EqAt.tuple_str _ _ it sr⟩
 |_=>exact ft ha
def VC(I:Inv X b4 σ H s):∀(n:Nat) (A:bG) (_:A.units+n+1<lK) (a b:D) (x y:V) (u v:Yh),fO n a=true->fO n b=true->Rep X.K H ι a x->Rep X.K H ι b y->RelV x u->RelV y v->wO A s u v (fP a b):=by
 intro n
 induction n with
 |zero=>intro A hu a b x y u v ha hb ra rb ru rv;exact Xi A a b x y u v (Qn ha) (Qn hb) ra rb ru rv|succ n ih=>
  intro A hu a b x y u v ha hb ra rb ru rv;have hu0:A.units+0+1<lK:=by omega
  have sr:A.units<lK:=by omega
  rcases F_ ha with fa|⟨ds,ea⟩
  .rcases F_ hb with fb|⟨es,eb⟩
   .exact Xi A a b x y u v fa fb ra rb ru rv
   .rw[eb]at rb |-;let⟨p,vs,b6,ex,eu,t,_⟩:=Gb I rb rv;rw[eu];exact(VA A sr fa ra ru t).1
  .rw[ea]at ra ha |-;let⟨p,vs,b6,ex,eu,t,r1,v1⟩:=Gb I ra ru;rw[eu];rcases F_ hb with fb|⟨es,eb⟩
   .exact(VA A sr fb rb rv t).2
   .rw[eb]at rb hb |-;let⟨q,ws,p5,ey,ev,t',r2,v2⟩:=Gb I rb rv;rw[ev];by_cases hp:p=q
    .rw[ey,<-hp,<-ex]at rb;rw[Rep.fun1 I (n+1) _ _ _ ha hb ra rb,hp];exact VH _
    .refine SeqAt.EqAt.of_refs hp ?_;rw[SE,<-U2 (qO r1 v1) (qO r2 v2)];exact OF t t' sr (Xj (ih A.in1 (by rw[units_in1];omega)) ha hb r1 r2 v1 v2)
end
section
variable {X:Cx}
section
variable {b4:List (Yy×aK)} {σ:St} {H:Hp} {s:Yl} {ι:List Yy}
def Qo(I:Inv X b4 σ H s)(S:aF X.K H ι M){x:V}(h:M[n]?=O (.L ds))(r:Rep X.K H ι (.ref n) x)(e:RelV x u):Xh X H ι s.heap.IsList ds x u:=by let⟨p,hp1,ex⟩:=r.fG;let⟨vs,e1,r1⟩:=S.obj n _ p h hp1;let⟨b6,uC,pl1,_⟩:=I.list<|bV.of e1;rw[ex]at e;exact⟨p,vs,b6,ex,e,pl1.isList,r1,uC⟩
inductive Cd(M:b3)(a b:D)(k:Bool):Prop
 |ref {n m:Nat} (ds es:c9):a= .ref n->b= .ref m->jQ ds es=k->M[n]?=O (.L ds)->M[m]?=O (.L es)->ds.all (fO qE)=true/\es.all (fO qE)=true->Cd M a b k
 |int (i j:Int):a= .int i->b= .int j->decide (i=j)=k->Cd M a b k
 |str (i j:b9):a= .str i->b= .str j->decide (i=j)=k->Cd M a b k
 |bl (i j:Bool):a= .bl i->b= .bl j->decide (i=j)=k->Cd M a b k
 |U {ds es:c9}:a= .U ds->b= .U es->jQ ds es=k->ds.all (fO qE)=true/\es.all (fO qE)=true->Cd M a b k
def Xk{c d:Bool}{a k:α}(h:(if c&&d then O a else Yj)=O k):a=k/\c=true/\d=true:=by
 cases c with
 |false=>exact j4 h|true=>cases d with
  |false=>exact j4 h|true=>exact⟨fM h,rfl,rfl⟩
def AeE(a b:Option MO):Option Bool:=match a,b with
 |some (.L x),O (.L y)=>if x.all (fO qE)&&y.all (fO qE)then O (jQ x y)else Yj|_,_=>Yj
def ZuV{m:Nat}{k:Bool}(h:AeE M[n]? M[m]?=O k):Cd M (.ref n) (.ref m) k:=by
 cases e1:M[n]? with
 |none=>rw[e1]at h;exact j4 h|some o=>cases o with
  | L x=>cases e2:M[m]? with
   |none=>rw[e1,e2]at h;exact j4 h|some o=>cases o with
    |L y=>rw[e1,e2]at h;exact have w:=Xk h;.ref x y J J w.1 e1 e2 w.2|_=>rw[e1,e2]at h;exact j4 h
  |_=>rw[e1]at h;exact j4 h
def eqK{a b:D}{k:Bool}(h:t8 a b M=O k):Cd M a b k:=by
 cases a with
 |ref n=>cases b with
  |ref m=>exact ZuV h|_=>exact j4 h
 |int i=>cases b with
  |int j=>exact .int i j J J (fM h)|_=>exact j4 h
 |str i=>cases b with
  |str j=>exact .str i j J J (fM h)|_=>exact j4 h
 |bl i=>cases b with
  |bl j=>exact .bl i j J J (fM h)|_=>exact j4 h
 |U ds=>cases b with
  |U es=>exact have w:=Xk h;.U J J w.1 w.2|_=>exact j4 h
 |_=>cases b<;>exact j4 h
def Xl{a b:D}{x y:V}{v:Yh}{k:Bool}(hu:X.A.units+80<lK)(I:Inv X b4 σ H s)(S:aF X.K H ι M)(ra:Rep X.K H ι a x)(rb:Rep X.K H ι b y)(ru:RelV x u)(rv:RelV y v)(h:t8 a b M=O k):SeqAt.RcAt X.A s u v k/\SeqAt.RcNeAt X.A s u v (!k):=by
 have sr:X.A.units<lK:=by omega
 have VE:X.A.in1.units+qE+1<lK:=by rw[units_in1];exact(show X.A.units+1+60+1<lK from by omega)
 rcases eqK h with⟨ds,es,ea,eb,ek,e1,e2,p1,p2⟩|⟨i,j,ea,eb,ek⟩|⟨i,j,ea,eb,ek⟩|⟨i,j,ea,eb,ek⟩|⟨ea,eb,ek,p1,p2⟩
 .rw[ea]at ra;rw[eb]at rb;rw[<-ek];let⟨p,vs,b6,_,eu,t,r1,v1⟩:=Qo I S e1 ra ru;let⟨q,ws,p5,_,ev,t',r2,v2⟩:=Qo I S e2 rb rv;rw[eu,ev];by_cases hl:B ds=es.length
  .rw[<-U1 (qO r1 v1) hl];have hz:=(qO r1 v1).trans<|hl.trans (qO r2 v2).symm;have w:=Xj (VC I qE X.A.in1 VE) p1 p2 r1 r2 v1 v2;exact⟨SeqAt.RcAt.lists t t' hz sr w,SeqAt.RcNeAt.lists t t' hz sr w⟩
  .rw[UZ hl];have hz:(b6.toArray.size !=p5.toArray.size)=true:=bne_iff_ne.mpr λe=>hl<|(qO r1 v1).symm.trans<|e.trans<|qO r2 v2;exact⟨SeqAt.RcAt.lists_lengths t t' hz sr,Oy t t' hz sr⟩
 .rw[ea]at ra;rw[eb]at rb;let⟨t,e⟩:=zJ ra ru;let⟨t',e'⟩:=zJ rb rv;rw[e,e',<-ek,<-Og];exact⟨SeqAt.RcAt.int_int _ _ _ _,SeqAt.RcNeAt.int_int _ _ _ _⟩
 .rw[ea]at ra;rw[eb]at rb;let⟨t,e⟩:=zK ra ru;let⟨t',e'⟩:=zK rb rv;rw[e,e',<-ek,Wj];exact⟨SeqAt.RcAt.str_str _ _ _ _,SeqAt.RcNeAt.str_str _ _ _ _⟩
 .rw[ea]at ra;rw[eb]at rb;rw[zH ra ru,zH rb rv,<-ek,<-Og];exact⟨SeqAt.RcAt.bool_bool _ _,SeqAt.RcNeAt.bool_bool _ _⟩
 .rw[ea]at ra;rw[eb]at rb;let⟨p,vs,b6,_,eu,t,r1,v1⟩:=Gb I ra ru;let⟨q,ws,p5,_,ev,t',r2,v2⟩:=Gb I rb rv;rw[eu,ev,<-ek,<-U2 (qO r1 v1) (qO r2 v2)];have w:=Xj (VC I qE X.A.in1 VE) p1 p2 r1 r2 v1 v2;exact⟨OF t t' sr w,SeqAt.RcNeAt.tuples t t' sr w⟩
end
def dR(hu:X.A.units+80<lK):bA X (gM .Eq) (r2 X.K aN):=by
 intro b4 s σ H x y v u Q I rx ry h;let⟨ι,M,a,b,S,ra,rb,h⟩:=h;unfold aN at h;cases q:t8 a b M with
 |none=>rw[q]at h;cases h|some k=>rw[q]at h;exact(Xl hu I S ra rb rx ry q).1 X.prog X.w X.xe _ ⟨.bl k,H,I,rfl,au.ok h S Rep.bl⟩
def Xm{i:Int}(r:aB K H ι ds vs)(h:iY ds i=O d):∃v,Bq vs i=O v/\Rep K H ι d v:=by
 unfold iY at h;unfold Bq;have e:Fj (B vs) i=nj (B ds) i:=by rw[r.length];rfl
 rw[e];cases q:nj (B ds) i with
 |none=>rw[q]at h;cases h|some j=>rw[q]at h;exact r.get h
def bx:ou X (r2 X.K Zn):=ou.imp Zx2 λx y H Q ak=>by
 let⟨ι,M,a,b,S,ra,rb,h⟩:=ak;cases a with
 | U ds=>cases b with
  |int i=>have h:au X.K H ι Q (zF (iY ds i) λd=>.ok d M):=h;let⟨d,q,h⟩:=JK h;let⟨p,vs,e',s1,r1⟩:=ra.kj;let⟨v,e,rv⟩:=Xm r1 q;exact .inr (.inl ⟨p,vs,i,v,e',rb.int_inv,s1,e,au.ok h S rv⟩)|_=>cases h
 | bB ds=>cases b with
  |int i=>have h:au X.K H ι Q (zF (iY ds i) λd=>.ok d M):=h;let⟨d,q,h⟩:=JK h;let⟨p,vs,e',s1,r1⟩:=ra.wj;let⟨v,e,rv⟩:=Xm r1 q;exact .inl ⟨p,vs,i,v,e',rb.int_inv,s1.sq,e,au.ok h S rv⟩|_=>cases h
 | str z=>cases b with
  |int i=>have h:au X.K H ι Q (UQ (iY z i) λc=>@ite _ (z.length<=SZ) (Yz _) (.ok (.str [c]) M) .bad):=h;let⟨c,q,h⟩:=Zu1 h;let⟨hz,h⟩:=zG h;exact .inr (.inr ⟨_,i,c,ra.str_inv,rb.int_inv,Yi hz mC,q,au.ok h S Rep.str⟩)|_=>cases h
 | ref n=>cases b with
  |int i=>have h:au X.K H ι Q (Ca (M[n]?) λds=>zF (iY ds i) λd=>.ok d M):=h;let⟨ds,hn,h⟩:=Qm h;let⟨d,q,h⟩:=JK h;let⟨p,hp,e'⟩:=ra.fG;let⟨vs,e1,r1⟩:=S.obj n _ p hn hp;let⟨v,e,rv⟩:=Xm r1 q;exact .inl ⟨p,vs,i,v,e',rb.int_inv,bV.of e1,e,au.ok h S rv⟩|_=>cases h
 |_=>cases b<;>cases h
def Xn(r:aB K H ι ds vs)(lo hi:Option Int):aB K H ι (cutD ds lo hi) (zf vs lo hi):=by
 have e:∀n d o,HT.aR n d o=aR n d o:=λn d o=>by cases o<;>rfl
 unfold cutD zf;rw[e,e,r.length];exact(r.drop _).take _
end
def iB(cells:List (aj×Yy)):List (aj×NameKind)->List (aj×Yy)->List (aj×Yy)
 |[],cs=>cs|(n,k)::r,cs=>iB cells r<|if k== .free then(n,(cells.lookup n).getD 0)::cs else cs
def JN{cells:List (aj×Yy)}{n:aj}{k:NameKind}{r:List (aj×NameKind)}{cs:List (aj×Yy)}:iB cells ((n,k)::r) cs=iB cells r (if k== .free then(n,(cells.lookup n).getD 0)::cs else cs):=rfl
def Qp{scope:Scope}{env:dz}(h:∀y∈scope.names,y.2= .free->∃c,env.cells.lookup y.1=O c):closureFor scope env=pure (iB env.cells scope.names []):=by
 unfold closureFor;have key:∀(names:List (aj×NameKind)) (cs:List (aj×Yy)),(∀y∈names,y.2= .free->∃c,env.cells.lookup y.1=O c) ->
   (forIn names cs λx r=>match x with|(name,kind)=>if(kind==NameKind.free)=true then do let c ←cellOf env name;pure (ForInStep.yield<|(name,c)::r)else pure (ForInStep.yield r):nW (List<|aj×Yy))=pure (iB env.cells names cs):=by
  intro names
  induction names with
  |nil=>intro cs _;rfl|cons y r ih=>
   intro cs hy;let⟨n,k⟩:=y;rw[List.forIn_cons];by_cases hk:k= .free
   .subst hk;let⟨c,hc⟩:=hy (n,.free) Ye J;have e1:cellOf env n=pure c:=by unfold cellOf;rw[hc]
    simp only[beq_self_eq_true,if_true,e1,pure_bind];rw[ih _ λz hz=>hy z<|Yf _ hz];rw[JN,hc];rfl
   .have hb:(k==NameKind.free)=false:=by simpa using hk
    simp only[hb,yR,if_false,pure_bind];rw[ih _ λz hz=>hy z<|Yf _ hz];rw[JN,hb];rfl
 have:=key scope.names [] h
 first
  |exact this
  |(simp only[bind_pure];exact this)
def Zqs{cells:List (aj×Yy)}{x:aj}{c:Yy}:∀(names:List (aj×NameKind)) (cs:List (aj×Yy)),(∀y∈names,y.2= .free->∃c,cells.lookup y.1=O c)->(iB cells names cs).lookup x=O c->cs.lookup x=O c\/cells.lookup x=O c:=by
 intro names
 induction names with
 |nil=>intro cs _ h;exact .inl h|cons y r ih=>
  intro cs hy h;let⟨n,k⟩:=y;rw[JN]at h;rcases ih _ (λz hz=>hy z<|Yf _ hz) h with q|q
  .by_cases hk:k= .free
   .subst hk;let⟨c0,hc⟩:=hy (n,.free) Ye J;simp only[beq_self_eq_true,if_true,hc,Option.getD_some,kY]at q;cases hx:x==n with
    |true=>
     simp only[hx]at q;cases q;have:x=n:=by simpa using hx
     subst this;exact .inr hc
    |false=>simp only[hx]at q;exact .inl q
   .have hb:(k==NameKind.free)=false:=by simpa using hk
    simp only[hb,yR,if_false]at q;exact .inl q
  .exact .inr q
def Zot{cells:List (aj×Yy)}{x:aj}:∀(names:List (aj×NameKind)) (cs:List (aj×Yy)),(cs.lookup x).isSome=true->((iB cells names cs).lookup x).isSome=true:=by
 intro names
 induction names with
 |nil=>intro cs h;exact h|cons y r ih=>
  intro cs h;let⟨n,k⟩:=y;rw[JN];refine ih _ ?_;split
  .rw[kY];split
   .rfl
   .exact h
  .exact h
def VI{cells:List (aj×Yy)}{x:aj}:∀(names:List (aj×NameKind)) (cs:List (aj×Yy)),(x,NameKind.free)∈names->((iB cells names cs).lookup x).isSome=true:=by
 intro names
 induction names with
 |nil=>intro cs h;cases h|cons y r ih=>
  intro cs h;let⟨n,k⟩:=y;rw[JN];rcases Yo.mp h with e|h
  .cases e
   refine Zot _ _ ?_;simp
  .exact ih _ h
def gA(X:Cx)(scope:Scope)(N':List aj)(C:Yy)(cl:List (aj×Yy))(s:Yl)(H:Hp)(ex:List Yy):Cx:={X with N:=N',s₀:=s,H₀:=H,env:=HF scope cl C X.env,outer:=X.stack,stack:=X.stack,ex:=ex,fn:=λ_=>false,pn:=[],xe:=λ_ _=>False}
def Xo(N N':List aj)(scope:Scope):Bool:=(jO<|B N).all λi=>match N'[i]? with
 |some x=>(scope.names.lookup x).isNone|| (decide (N[i]?=O x)&&decide (scope.names.lookup x=O .free))|none=>false
def rR(X:Cx)(ifs:List Expr)(ts:List E3):Prop:=∀(b4:List (Yy×aK)) (s:Yl) (σ:St) (H:Hp) (Q:Bool->Hp->Prop),Inv X b4 σ H s ->
 (∃ι M env,aF X.K H ι M/\bT X.K H ι env σ/\match xg ts env M with| .ok b M'=>∀H' ι',Ext X.K H ι H' ι'->aF X.K H' ι' M'->Q b H'|_=>False) ->
 aq (aA X.prog X.w) X.A (forIn ifs true λc r=>if r=true then do let ok ←isTrue c X.env (aO c X.env);pure (ForInStep.yield ok)else pure (ForInStep.yield r)) (TP X b4 σ Q) X.xe s
def qP:rR X [] []:=λb4 s σ H Q I ⟨ι,M,env,S,E,h⟩=>wpAny_tests_nil ⟨H,I,h H ι Ext.refl S⟩
def ZuU{c:Expr}(hc:CT X c f):rR X [c] [f]:=λb4 s σ H Q I ak=>by
 let⟨ι,M,env,S,E,h⟩:=ak;refine wpAny_tests_one<|hc b4 s σ H Q I ⟨ι,M,env,S,E,?_⟩;rw[Jt]at h;cases q:f env M with
 | ok d M1=>
  rw[q]at h;cases d with
  |bl b=>cases b with
   |true=>exact h|false=>exact h
  |_=>cases h
 |exc x M1=>rw[q]at h;cases h|bad=>rw[q]at h;cases h
section
variable {prog:Y9} {w:aQ} {A:bG} {R:ph->Yl->Prop} {s:Yl}
def VM{elt target iter:Expr}{ifs:List Expr}{scope:Scope}{pos:a_}{it acc:Yh}{env:dz}(I:Nat->Yl->Prop)(turn:∀n s,I n s->aq (aA prog w) A (wJ it) (λr s₁=>match r with
   |none=>R (.ok .next) s₁|some v=>aq (aA prog w) A (Ht target it v) (λ_ VO=>aq (aA prog w) A (kW target env v) (λ_ s₂=>
     aq (aA prog w) A (forIn ifs true λc r=>if r=true then do let ok ←isTrue c env (aO c env);pure (ForInStep.yield ok)else pure (ForInStep.yield r)) (λok s₃=>
      if ok=true then aq (aA prog w) A (aO elt env) (λx s₄=>aq (aA prog w) A (call (.builtin "list.append") [acc,x]) (λ_ s₅=>∃m,m<n/\I m s₅) (λ_ _=>False) s₄) (λ_ _=>False) s₃
      else∃m,m<n/\I m s₃) (λ_ _=>False) s₂) (λ_ _=>False) VO) (λ_ _=>False) s₁) (λ_ _=>False) s)(n:Nat)(h:I n s):kO (aA prog w) A (.compLoop (.ListComp elt [⟨target,iter,ifs,0⟩] scope pos) 0 it acc env) R s:=by
 refine codeAny_loop J I (λn s hI=>?_) n h;show aq _ A ((compTurn (.ListComp elt [⟨target,iter,ifs,0⟩] scope pos) 0 it acc env).onRaise (λx=>do HD x env;theTreesLotGoes x)) _ _ s;refine wpAny_noted ?_;rw[compTurn_list];refine Yc<|tD<|Yc<|gD (turn n s hI) (λr s₁ h₁=>?_) λ_ _ h'=>fZ h';cases r with
 |none=>exact Yr h₁|some v=>
  refine Yc<|gD h₁ (λ_ VO h₁'=>?_) λ_ _ h'=>fZ h';refine Yc<|gD h₁' (λ_ s₂ h₂=>Yc<|gD h₂ (λok s₃ h₃=>?_) λ_ _ h'=>fZ h') λ_ _ h'=>fZ h';cases ok with
  |false=>exact Yr ⟨rfl,h₃⟩|true=>exact Yc<|Yc<|gD h₃ (λx s₄ h₄=>Yc<|gD h₄ (λ_ s₅ h₅=>Yr<|Yr ⟨rfl,h₅⟩) λ_ _ h'=>fZ h') λ_ _ h'=>fZ h'
end
def Xp{env:dz}{x:aj}{k:NameKind}:∀{names:List (aj×NameKind)},(names.map λ(n,k)=>if(k==NameKind.free&&env.scope.kind== .function&&env.kindOf n==O .cell)then(n,NameKind.cell)else(n,k)).lookup x=O k ->
  ∃k0,names.lookup x=O k0/\(k0=k\/(k0= .free/\k= .cell)):=by
 intro names
 induction names with
 |nil=>intro h;simp at h|cons y r ih=>
  intro h;let⟨n,k1⟩:=y;rw[Yw]at h;cases hx:x==n with
  | true=>
   refine⟨k1,by simp[kY,hx],?_⟩;by_cases hc:(k1==NameKind.free&&env.scope.kind== .function&&env.kindOf n==O .cell)=true
   .simp only[c_ hc,kY,hx]at h;cases h;simp only[gO,beq_iff_eq]at hc;exact .inr ⟨hc.1.1,rfl⟩
   .simp only[d4 hc,kY,hx]at h;cases h;exact .inl J
  | false=>
   have h':(r.map λ(n,k)=>if(k==NameKind.free&&env.scope.kind== .function&&env.kindOf n==O .cell)then(n,NameKind.cell)else(n,k)).lookup x=O k:=by
    by_cases hc:(k1==NameKind.free&&env.scope.kind== .function&&env.kindOf n==O .cell)=true
    .simp only[c_ hc,kY,hx]at h;exact h
    .simp only[d4 hc,kY,hx]at h;exact h
   let⟨k0,e,q⟩:=ih h';exact⟨k0,by simp[kY,hx,e],q⟩
def ZmB{env:dz}{x:aj}:∀{names:List (aj×NameKind)},names.lookup x=O .free ->
  (names.map λ(n,k)=>if(k==NameKind.free&&env.scope.kind== .function&&env.kindOf n==O .cell)then(n,NameKind.cell)else(n,k)).lookup x=O .free\/
  (names.map λ(n,k)=>if(k==NameKind.free&&env.scope.kind== .function&&env.kindOf n==O .cell)then(n,NameKind.cell)else(n,k)).lookup x=O .cell:=by
 intro names
 induction names with
 |nil=>intro h;simp at h|cons y r ih=>
  intro h;let⟨n,k1⟩:=y;rw[Yw];cases hx:x==n with
  |true=>
   simp only[kY,hx]at h;cases h;by_cases hc:(NameKind.free==NameKind.free&&env.scope.kind== .function&&env.kindOf n==O .cell)=true
   .simp only[c_ hc,kY,hx];exact .inr trivial
   .simp only[d4 hc,kY,hx];exact .inl trivial
  |false=>
   simp only[kY,hx]at h;by_cases hc:(k1==NameKind.free&&env.scope.kind== .function&&env.kindOf n==O .cell)=true
   .simp only[c_ hc,kY,hx];exact ih h
   .simp only[d4 hc,kY,hx];exact ih h
section
variable {X:Cx} {b4:List (Yy×aK)} {σ:St} {H:Hp} {s:Yl} {scope:Scope} {N':List aj} {own:Nat} {fp:List Yy}
def VQ(I:Inv X b4 σ H s)(hk:scope.kind= .function)(t9:∀y∈scope.names,y.2≠ .cell)(si:∀y∈scope.names,y.2= .free->X.env.kindOf y.1=O .cell\/X.env.kindOf y.1=O .free)(hN:B N'=B X.N+own)(hv:Xo X.N N' scope=true)(s_:∀b∈fp,jy X b4 H b)(j1:∀b∈fp,b<c6 s){h1:aH}{tk:Nat}(tN:h1.Ns (c6 s) λ_=>Yj)(keep:∀b o,s.heap.get? b=O o->h1.get? b=O o):
  Inv (gA X scope N' (c6 s) (iB X.env.cells scope.names []) s H fp) [] (σ++Yq own Yj) H {s with heap:=h1,toks:=tk}:=by
 have xk:∀y∈scope.names,y.2= .free->∃c,X.env.cells.lookup y.1=O c:=λy hy e=>I.ok.has y.1<|si y hy e;have sub:∀x c,(iB X.env.cells scope.names []).lookup x=O c->X.env.cells.lookup x=O c:=λx c h=>by
  rcases Zqs scope.names [] xk h with q|q
  .simp at q
  .exact q
 have cellK:∀{c:Yy} {v:Option Yh},s.heap.IsCell c v->h1.IsCell c v:=λ⟨o,ho,hd⟩=>⟨o,keep _ o ho,hd⟩;refine⟨⟨I.ok.mod,hk,I.ok.glob,I.ok.blt,Yu _,λx y c h1 h2=>I.ok.inj x y c (sub x c h1)<|sub y c h2,λx hx=>?_,λx c h=>?_,I.ok.hd,I.ok.frames,.inl J,λb hb=>⟨d8<|j1 b hb,λx c h=>(s_ b hb).2.2.2.2.1 x c<|sub x c h⟩,
   I.bs,Yi I.ok.qF I.sz,λb o e hb=>?_,λb hb hz=>?_,I.stack,I.Sw⟩,rfl,I.bare,Un.kept keep,⟨_,tN,λi x v h1 h2 h3=>?_⟩,λx c h=>?_,I.i6.fresh<|Yu _,λx c h=>I.mO x c<|sub x c h,
  λp hp=>k9 (show p∈([]:List (Yy×aK))from hp) i9,I.i6.kept keep,?_⟩
 .have wd:(yD scope X.env).names.lookup x=O .cell\/(yD scope X.env).names.lookup x=O .free:=hx;have:scope.names.lookup x=O .free:=by
   rcases wd with wd|wd
   .let⟨k0,e,q⟩:=Xp (names:=scope.names) wd;rcases q with q|⟨q,_⟩
    .subst q;exact k9 J<|t9 _<|wH e
    .rw[e,q]
   .let⟨k0,e,q⟩:=Xp (names:=scope.names) wd;rcases q with q|⟨_,q⟩
    .rw[e,q]
    .cases q
  exact Ho.mp<|VI scope.names []<|wH this
 .cases h
 .let⟨_,_,_,q,_⟩:=s_ b hb;rcases q with q|q
  .exact I.ok.Aj b o e q
  .exact k9 (Y5 (Y3 e)<|Yi I.ok.qF q)<|wM _
 .have AQ:b∈sR X.stack:=hz;let⟨_,q1,q2,_⟩:=s_ b hb;rcases Yo.mp (I.DW b AQ)with e|e
  .exact q1 e
  .exact q2 e
 .have hi:i<B σ:=by
   by_cases hi:i<σ.length
   .exact hi
   .rw[uW<|k_ hi,Nu]at h2;split at h2<;>cases h2
  rw[Yk hi]at h2;have Iz:i<B X.N:=by rwa[<-I.len]
  have hN':N'[i]?=O x:=h1;have vq:=jh.mp hv i<|U0.mpr Iz;rw[hN']at vq;have h3':(yD scope X.env).names.lookup x=O .local\/(yD scope X.env).names.lookup x=O .cell\/(yD scope X.env).names.lookup x=O .free:=h3;have some_of:∃k0,scope.names.lookup x=O k0:=by rcases h3' with q|q|q<;>(let⟨k0,e,_⟩:=Xp (names:=scope.names) q;exact⟨k0,e⟩)
  let⟨k0,ek⟩:=some_of;simp only[ek,Option.isNone_some,L8,gO,decide_eq_true_eq]at vq;let⟨vq1,vq2⟩:=vq;cases vq2;have ue:=si (x,.free) (wH ek) J;let⟨m,hn,hl⟩:=I.loc;have AeF:Ph X.env.scope x:=by
   rcases ue with q|q
   .exact .inr<|.inl q
   .exact .inr<|.inr q
  let⟨u,ru,lk⟩:=hl i x v vq1 h2 AeF;refine⟨u,ru,?_⟩;rcases lk with⟨kl,_⟩|⟨_,c,ec,ic⟩
  .rcases ue with q|q<;>(rw[q]at kl;cases kl)
  .have hkk:(HF scope (iB X.env.cells scope.names []) (c6 s) X.env).kindOf x=O .cell\/(HF scope (iB X.env.cells scope.names []) (c6 s) X.env).kindOf x=O .free:=by
    rcases ZmB (env:=X.env) ek with q|q
    .exact .inr q
    .exact .inl q
   let⟨c',VS⟩:=Ho.mp<|VI (cells:=X.env.cells) scope.names []<|wH ek;have e2:=sub x c' VS;rw[ec]at e2;cases e2;exact .inr ⟨hkk,c,VS,cellK ic⟩
 .let⟨v,ic⟩:=I.cell x c<|sub x c h;exact⟨v,cellK ic⟩
 .show(σ++Yq own Yj).length=B N';rw[Yd,pq,I.len,hN]
def bT.grow{H:Hp}{σ:St}(E:bT K H ι env σ)(n:Nat):bT K H ι (env++Yq n Yj) (σ++Yq n Yj):=by
 refine⟨by simp[E.1],λi d h=>?_⟩;by_cases hi:i<env.length
 .rw[Yk hi]at h;let⟨v,e,r⟩:=E.2 i d h;exact⟨v,by rwa[Yk (by rw[<-E.1];exact hi)],r⟩
 .rw[uW<|k_ hi,Nu]at h;split at h<;>cases h
end
section
structure Cb where
 Y:Cx
 fp:List Yy
 tn:Nat->aH->Prop
 bD:ir
 H2:Hp
 ι2:List Yy
 Q:VK
 g:G3
 ts:List E3
 f:E3
 nM:Nat
 acc:Yy
inductive Xq(P:Cb)(n:Nat)(s':Yl):Prop
 | mk (k:Nat) (σ5:St) (H5:Hp) (ι5:List Yy) (M5:b3) (wA:bO) (I5:Inv P.Y [] σ5 H5 s') (n8:P.tn k s'.heap) (rE:∀b∈P.fp,H5 b=Yj) (hn:B P.bD.items-k=n) (hk:k<=B P.bD.items)
   (x5:Ext P.Y.K P.H2 P.ι2 H5 ι5) (S5:aF P.Y.K H5 ι5 M5) (E5:bT P.Y.K H5 ι5 wA σ5) (hι:ι5[P.nM]?=O P.acc) (h5:au P.Y.K H5 ι5 P.Q (jR P.bD P.g P.ts P.f P.nM (P.bD.items.drop k) wA M5))
def Qq(P:Cb)(n:Nat)(s':Yl):Prop:=∃m,m<n/\Xq P m s'
section
local instance (priority:=100000) Afk (p:Prop):Decidable p:=AdV p
def Qs(P:Cb)(k:Nat)(env:bO)(e:D)(M2:b3):R3 D:=match M2[P.nM]? with
 |some (.L x)=>if x.length<SZ then jR P.bD P.g P.ts P.f P.nM (P.bD.items.drop<|k+1) env (M2.set P.nM<|.L<|x++[e])else .bad|_=>.bad
def Xr(P:Cb)(k:Nat)(env:bO)(b:Bool)(M1:b3):R3 D:=if b then(P.f env M1).bind (Qs P k env)else jR P.bD P.g P.ts P.f P.nM (P.bD.items.drop<|k+1) env M1
end
def B6(P:Cb)(n:Nat)(xv:Yh)(s:Yl):Prop:=aq (aA P.Y.prog P.Y.w) P.Y.A (call (.builtin "list.append") [.ref P.acc,xv]) (λ_ s'=>Qq P n s') P.Y.xe s
def VT(P:Cb)(elt:Expr)(n:Nat)(ok:Bool)(s:Yl):Prop:=if ok=true then aq (aA P.Y.prog P.Y.w) P.Y.A (aO elt P.Y.env) (B6 P n) P.Y.xe s else Qq P n s
def DS(P:Cb)(elt:Expr)(ifs:List Expr)(n:Nat)(s:Yl):Prop:=aq (aA P.Y.prog P.Y.w) P.Y.A (forIn ifs true λc r=>if r=true then do let ok ←isTrue c P.Y.env (aO c P.Y.env);pure (ForInStep.yield ok)else pure (ForInStep.yield r)) (VT P elt n) P.Y.xe s
def VU(P:Cb)(tg elt:Expr)(ifs:List Expr)(n:Nat)(u:Yh)(s:Yl):Prop:=aq (aA P.Y.prog P.Y.w) P.Y.A (kW tg P.Y.env u) (λ_=>DS P elt ifs n) P.Y.xe s
def DT(P:Cb)(tg elt:Expr)(ifs:List Expr)(it:Yy)(n:Nat)(F:Yl->Prop)(r:Option Yh)(s:Yl):Prop:=match r with
 |none=>F s|some v=>aq (aA P.Y.prog P.Y.w) P.Y.A (Ht tg (.ref it) v) (λ_=>VU P tg elt ifs n v) P.Y.xe s
variable {P:Cb} {tg elt:Expr} {ifs:List Expr} {i4:It} {it:Yy} {k:Nat} {h7:aH} {σ:St} {H H':Hp} {s:Yl} {ι:List Yy} {M M1:b3} {env:bO}
def VW(T:Turn P.Y.prog P.Y.w P.Y.K tg i4 P.fp it P.tn)(nD:P.tn (k+1) h7)(j1:k<B P.bD.items)(I':Inv P.Y ([]++wU P.fp h7) σ H s)(x:Ext P.Y.K P.H2 P.ι2 H ι)(S:aF P.Y.K H ι M)(E:bT P.Y.K H ι env σ)(hι:ι[P.nM]?=O P.acc)(h:au P.Y.K H ι P.Q (jR P.bD P.g P.ts P.f P.nM (P.bD.items.drop<|k+1) env M)):Qq P (B P.bD.items-k) s:=⟨B P.bD.items-(k+1),b5,⟨k+1,σ,H,ι,M,env,I'.G9,T.keep _ _ _ nD λb hb o e=>(I'.pin (b,o)<|Y2 _<|Y2 _<|Fe hb e).1,λb hb=>(T.obj _ _ nD b hb).elim λo e=>(I'.pin (b,o)<|Y2 _<|Y2 _<|Fe hb e.1).2.1,rfl,j1,x,S,E,hι,h⟩⟩
def Zzg:Xr P k env true M=(P.f env M).bind (Qs P k env):=c_ J
def Zz6:Xr P k env false M=jR P.bD P.g P.ts P.f P.nM (P.bD.items.drop<|k+1) env M:=d4 aaA
def au.iff{H:Hp}{ι:List Yy}{Q:VK}{c:Prop}{dc:Decidable c}(h:au K H ι Q (if c then r else .bad)):c/\au K H ι Q r:=by
 by_cases hc:c
 .rw[c_ hc]at h;exact⟨hc,h⟩
 .rw[d4 hc]at h;cases h
def Zw9{xv:Yh}(T:Turn P.Y.prog P.Y.w P.Y.K tg i4 P.fp it P.tn)(nD:P.tn (k+1) h7)(j1:k<B P.bD.items)(I':Inv P.Y ([]++wU P.fp h7) σ H s)(r:RelV v xv)(x:Ext P.Y.K P.H2 P.ι2 H ι)(S:aF P.Y.K H ι M)(E:bT P.Y.K H ι env σ)(rd:Rep P.Y.K H ι d v)(hι:ι[P.nM]?=O P.acc)(hm:M[P.nM]?=O (.L xs))(hz:B xs<SZ)(h:au P.Y.K H ι P.Q (jR P.bD P.g P.ts P.f P.nM (P.bD.items.drop<|k+1) env<|M.set P.nM<|.L<|xs++[d])):
  B6 P (B P.bD.items-k) xv s:=by
 let⟨vs,ev,uC⟩:=S.obj _ _ _ hm hι;let⟨yB,Xu⟩:=S.yo (.inr<|.inl ⟨_,ev⟩) hι<|uC.append<|aB.cons rd aB.nil;refine aP (Q':=λ_ s'=>Qq P (B P.bD.items-k) s') (Wz _ s σ H (.ref P.acc) [v] (.ref P.acc) [xv] (λ_ H'=>H'=upd H P.acc (.L<|vs++[v])) I' J (.cons r .nil) ⟨_,vs,v,rfl,rfl,ev,by rw[uC.length];exact Y5 hz mC,rfl⟩) λ_ Qt ak=>?_;let⟨_,H11,Qu,_,eH⟩:=ak;rw[eH]at Qu;exact VW T nD j1 Qu (x.trans yB) Xu (E.mono yB) (yB.pre _ _ hι)<|h.up yB
def ZxP(T:Turn P.Y.prog P.Y.w P.Y.K tg i4 P.fp it P.tn)(tP:C3 P.Y elt P.f)(nD:P.tn (k+1) h7)(j1:k<B P.bD.items)(I':Inv P.Y ([]++wU P.fp h7) σ H s)(x:Ext P.Y.K P.H2 P.ι2 H ι)(S:aF P.Y.K H ι M)(E:bT P.Y.K H ι env σ)(hι:ι[P.nM]?=O P.acc)(h:au P.Y.K H ι P.Q ((P.f env M).bind<|Qs P k env)):
  aq (aA P.Y.prog P.Y.w) P.Y.A (aO elt P.Y.env) (B6 P<|B P.bD.items-k) P.Y.xe s:=by
 let⟨d,JP,DU,sj⟩:=au.bind h;refine aP (Q':=B6 P<|B P.bD.items-k) (tP _ s σ H (λv H'=>∃uo,Ext P.Y.K H ι H' uo/\aF P.Y.K H' uo JP/\Rep P.Y.K H' uo d v) I' ⟨ι,M,env,S,E,by rw[DU];exactλv H' ι' x' S' r'=>⟨ι',x',S',r'⟩⟩) λxv Qv ak=>?_;let⟨v,Xv,Xw,DV,uo,x10,Qw,rd⟩:=ak;unfold Qs at sj;cases hm:JP[P.nM]? with
 |none=>rw[hm]at sj;exact sj.elim|some o=>
  rw[hm]at sj;cases o with
  |qq _=>exact sj.elim|dY _=>exact sj.elim|ins _ _=>exact sj.elim|L xs=>exact Zw9 T nD j1 Xw DV (x.trans x10) Qw (E.mono x10) rd (x10.pre _ _ hι) hm (au.iff sj).1<|(au.iff sj).2.up x10
def ZwW(T:Turn P.Y.prog P.Y.w P.Y.K tg i4 P.fp it P.tn)(yT:rR P.Y ifs P.ts)(tP:C3 P.Y elt P.f)(nD:P.tn (k+1) h7)(j1:k<B P.bD.items)(I':Inv P.Y ([]++wU P.fp h7) σ H s)(x:Ext P.Y.K P.H2 P.ι2 H ι)(S:aF P.Y.K H ι M)(E:bT P.Y.K H ι env σ)(hι:ι[P.nM]?=O P.acc)(h:au P.Y.K H ι P.Q ((xg P.ts env M).bind<|Xr P k env)):
  DS P elt ifs (B P.bD.items-k) s:=by
 let⟨b,M9,e9,h9⟩:=au.bind h;refine aP (Q':=VT P elt<|B P.bD.items-k) (yT _ s σ H (λb' H'=>b'=b/\∃ι9,Ext P.Y.K H ι H' ι9/\aF P.Y.K H' ι9 M9) I' ⟨ι,M,env,S,E,by rw[e9];exactλH' ι' x' S'=>⟨rfl,ι',x',S'⟩⟩) λb' s9 ak=>?_;let⟨H9,I9,eb,ι9,x9,S9⟩:=ak;rw[<-eb]at h9;cases b' with
 |false=>exact VW T nD j1 I9 (x.trans x9) S9 (E.mono x9) (x9.pre _ _ hι) (au.up x9<|Zz6▸h9)|true=>exact ZxP T tP nD j1 I9 (x.trans x9) S9 (E.mono x9) (x9.pre _ _ hι)<|au.up x9<|Zzg▸h9
def ZzA(T:Turn P.Y.prog P.Y.w P.Y.K tg i4 P.fp it P.tn)(hc:P.Y.calm=true)(s_:∀{H':Hp},(∀b∈P.fp,H' b=Yj)->∀b∈P.fp,jy P.Y [] H' b)(hg:CG P.Y tg P.g)(yT:rR P.Y ifs P.ts)(tP:C3 P.Y elt P.f)(j1:k<B P.bD.items)(I5:Inv P.Y [] σ H s)(n8:P.tn k s.heap)(rE:∀b∈P.fp,H b=Yj)(x:Ext P.Y.K P.H2 P.ι2 H ι)(S:aF P.Y.K H ι M)(E:bT P.Y.K H ι env σ)(hι:ι[P.nM]?=O P.acc)(ok:ul P.Y.K P.H2 P.ι2 P.bD i4)(h:au P.Y.K H ι P.Q (jR P.bD P.g P.ts P.f P.nM (P.bD.items[k]::P.bD.items.drop (k+1)) env M))(F:Yl->Prop):
  aq (aA P.Y.prog P.Y.w) P.Y.A (wJ<|.ref it) (DT P tg elt ifs it (B P.bD.items-k) F) P.Y.xe s:=by
 let⟨lk,h⟩:=au.iff h;let⟨go,yl⟩:=(ok k H ι M x S lk).1 _<|Y0 j1;cases eg:P.g P.bD.items[k] env with
 |none=>rw[eg]at h;cases h|some wB=>rw[eg]at h;refine aP (T.item P.Y J J J hc k [] s σ H P.Y.xe I5 (s_ rE) n8 go) λr s6 ak=>?_;let⟨u,hr,h6⟩:=ak;rw[hr];refine aP (Q':=λ_=>VU P tg elt ifs (B P.bD.items-k) u) h6 λ_ s7 ak=>?_;let⟨y,H7,I7,r7,y7,nD,Qx⟩:=ak;let⟨e7,rx⟩:=yl y H7 y7;rw[e7]at I7 Qx;refine aP (Q':=λ_=>DS P elt ifs<|B P.bD.items-k) (hg _ s7 σ H y u (λσ' H'=>H'=H/\bT P.Y.K H ι wB σ') (I7.pinned (s_ Qx)<|T.obj _ _ nD) r7 ⟨ι,M,env,_,wB,S,E,rx,eg,λσ' E'=>⟨rfl,E'⟩⟩) λ_ s8 ak=>?_;let⟨σ8,H8,I8,e8,E8⟩:=ak;rw[e8]at I8;exact ZwW T yT tP nD j1 I8 x S E8 hι h
def ZvG(T:Turn P.Y.prog P.Y.w P.Y.K tg i4 P.fp it P.tn)(hc:P.Y.calm=true)(s_:∀{H':Hp},(∀b∈P.fp,H' b=Yj)->∀b∈P.fp,jy P.Y [] H' b)(I5:Inv P.Y [] σ H s)(n8:P.tn (B P.bD.items) s.heap)(rE:∀b∈P.fp,H b=Yj)(x:Ext P.Y.K P.H2 P.ι2 H ι)(S:aF P.Y.K H ι M)(hι:ι[P.nM]?=O P.acc)(ok:ul P.Y.K P.H2 P.ι2 P.bD i4)(h:au P.Y.K H ι P.Q (jR P.bD P.g P.ts P.f P.nM [] env M)){F:Yl->Prop}(hF:∀s6,Inv P.Y [] σ H s6->P.Q (.ref P.acc) H->F s6):
  aq (aA P.Y.prog P.Y.w) P.Y.A (wJ<|.ref it) (DT P tg elt ifs it n F) P.Y.xe s:=by
 let⟨lk,h⟩:=au.iff h;refine aP (T.done P.Y J J J hc _ [] s σ H P.Y.xe I5 (s_ rE) n8<|(ok _ H ι M x S lk).2 J) λr s6 ak=>?_;rw[ak.1];exact hF s6 ak.2<|h _ H ι Ext.refl S<|Rep.ref hι
end
variable{it:Yy}{E:Yh->Yl->Prop}{s:Yl}{fp:List Yy}{b4:List (Yy×aK)}
section
variable {X:Cx} {elt tg iter:Expr} {ifs:List Expr} {scope:Scope} {pos:a_} {i:I3} {own:Nat} {g:G3} {ts:List E3} {f:E3} {N':List aj}
structure zL(X:Cx)(scope:Scope)(N':List aj)(own:Nat):Prop where
 kind:scope.kind= .function
 cell:∀y∈scope.names,y.2≠ .cell
 free:∀y∈scope.names,y.2= .free->X.env.kindOf y.1=O .cell\/X.env.kindOf y.1=O .free
 names:∀y∈scope.names,y.2= .local->scope.names.lookup y.1=O .local
 len:B N'=B X.N+own
 VX:Xo X.N N' scope=true
def Zva{P:Cb}{i4:It}{F:Yl->Prop}(T:Turn P.Y.prog P.Y.w P.Y.K tg i4 P.fp it P.tn)(hc:P.Y.calm=true)(s_:∀{H':Hp},(∀b∈P.fp,H' b=Yj)->∀b∈P.fp,jy P.Y [] H' b)(hb:CG P.Y tg P.g/\rR P.Y ifs P.ts/\C3 P.Y elt P.f)(ok:ul P.Y.K P.H2 P.ι2 P.bD i4)(z:Xq P n s)(fin:∀σ H s',Inv P.Y [] σ H s'->P.Q (.ref P.acc) H->F s'):aq (aA P.Y.prog P.Y.w) P.Y.A (wJ<|.ref it) (DT P tg elt ifs it n F) P.Y.xe s:=by
 let⟨k,σ5,H5,ι5,M5,wA,I5,n8,rE,hn,hk,x5,S5,E5,hι,h5⟩:=z;by_cases j1:k<P.bD.items.length
 .rw[yI j1]at h5;exact hn▸ZzA T hc s_ hb.1 hb.2.1 hb.2.2 j1 I5 n8 rE x5 S5 E5 hι ok h5 _
 .rw[fY hk<|k_ j1]at n8 h5;rw[NZ]at h5;exact ZvG T hc s_ I5 n8 rE x5 S5 hι ok h5 λs6 I6 q=>fin σ5 H5 s6 I6 q
def ZnG{s3:Yl}{H2 H3:Hp}{ι2 ι3:List Yy}{M3:b3}{nM:Nat}{D:Yy}{tn:Nat->aH->Prop}{i4:It}{bD:ir}{Q:VK}(l9:zL X scope N' own)(hc:X.calm=true)(hb:∀C cl s H ex,CG (gA X scope N' C cl s H ex) tg g/\rR (gA X scope N' C cl s H ex) ifs ts/\C3 (gA X scope N' C cl s H ex) elt f)(T:Turn X.prog X.w X.K tg i4 fp it tn)(st3:tn 0 s3.heap)(yp:∀b∈fp,b<c6 s3)(I3:Inv X b4 σ H3 s3)(o7:∀b∈fp,jy X b4 H3 b)(x3:Ext X.K H2 ι2 H3 ι3)(S3:aF X.K H3 ι3 M3)(E2:bT X.K H3 ι3 env σ)(ok:ul X.K H2 ι2 bD i4)(h:au X.K H3 ι3 Q (jR bD g ts f nM bD.items (env++Yq own Yj) M3))(hι:ι3[nM]?=O D)(RR:Yh->Yy->ph->Yl->Prop)(fin:∀(acc C:Yy) (s':Yl) (m:aj->Option Yh) (H':Hp),s'.heap.Ns C m->jy X b4 H' C->Inv X b4 σ H' s'->Q (.ref acc) H'->RR (.ref acc) C (.ok .next) s'):
  aq (aA X.prog X.w) X.A (T6 scope X.env.globals (iB X.env.cells scope.names []) [] X.env.qual Yj .none<|O X.env) (λtf s₄=>kO (aA X.prog X.w) X.A (.compStart (.ListComp elt [⟨tg,iter,ifs,0⟩] scope pos) 0 (.ref it) (.ref D) {tf with scope:=yD scope X.env}) (RR (.ref D) tf.locals) s₄) E s3:=by
 refine IX l9.cell (by intro y hy;cases hy) (λh4 tN DZ=>?_) l9.kind;have G_:∀b o,s3.heap.get? b=O o->h4.get? b=O o:=λb o e=>DZ.extBut b o (d8<|Y3 e)<|Yn _ e;have I4:=VQ (own:=own) (N':=N') (tk:=s3.toks+([]:List (aj×Yh)).length) I3 l9.kind l9.cell l9.free l9.len l9.VX o7 yp tN G_;have JQ:tn 0 h4:=T.keep _ _ _ st3 λb hb o e=>G_ b o e;have L:=VM (prog:=X.prog) (w:=X.w) (A:=X.A) (R:=RR (.ref D)<|c6 s3) (scope:=scope) (pos:=pos) (iter:=iter) (elt:=elt) (target:=tg) (ifs:=ifs) (env:=HF scope (iB X.env.cells scope.names []) (c6 s3) X.env) (Xq ⟨gA X scope N' (c6 s3) (iB X.env.cells scope.names []) s3 H3 fp,fp,tn,bD,H2,ι2,Q,g,ts,f,nM,D⟩) (λn s5 z=>Zva (P:=⟨gA X scope N' (c6 s3) (iB X.env.cells scope.names []) s3 H3 fp,fp,tn,bD,H2,ι2,Q,g,ts,f,nM,D⟩) T hc
  (λhn b hb=>⟨hn b hb,d8<|yp b hb,λhz=>I4.ok.yh b hb hz,.inl hb,λx c hx=>(I4.ok.Fd b hb).2 x c hx,λp hp=>k9 (show p∈([]:List (Yy×aK))from hp) i9⟩)
  (hb _ _ _ _ _) ok z
  λσ' H' s6 I6 q=>I6.loc.elim λm6 Xx=>fin _ _ s6 m6 H' Xx.1 (I3.yj (Yu _) I6.free) (I3.vS (ch:=fp) I6.os I6.base I6.i6 I6.bare λb hb=>⟨(o7 b hb).2.2.2.1,(o7 b hb).2.1,(o7 b hb).2.2.2.2.1,(o7 b hb).2.2.2.2.2⟩) q) _
  ⟨0,_,_,_,_,_,I4,JQ,λb hb=>(o7 b hb).1,rfl,g_ _,x3,S3,E2.grow own,hι,h⟩
 exact IP L<|T.self _ 0 _ _ _ JQ L
def VY{s2:Yl}{H2:Hp}{ι2:List Yy}{M2:b3}{tn:Nat->aH->Prop}{i4:It}{bD:ir}{Q:VK}(l9:zL X scope N' own)(hc:X.calm=true)(hb:∀C cl s H ex,CG (gA X scope N' C cl s H ex) tg g/\rR (gA X scope N' C cl s H ex) ifs ts/\C3 (gA X scope N' C cl s H ex) elt f)(I2:Inv X b4 σ H2 s2)(T:Turn X.prog X.w X.K tg i4 fp it tn)(AA:tn 0 s2.heap)(s_:∀b∈fp,jy X b4 H2 b)(S2:aF X.K H2 ι2 M2)(E2:bT X.K H2 ι2 env σ)(ok:ul X.K H2 ι2 bD i4)(h:au X.K H2 ι2 Q (jR bD g ts f (B M2) bD.items (env++Yq own Yj)<|M2++[.L []]))(RR:Yh->Yy->ph->Yl->Prop)(fin:∀(acc C:Yy) (s':Yl) (m:aj->Option Yh) (H':Hp),s'.heap.Ns C m->jy X b4 H' C->Inv X b4 σ H' s'->Q (.ref acc) H'->RR (.ref acc) C (.ok .next) s'):
  aq (aA X.prog X.w) X.A (Nr []) (λacc s₃=>aq (aA X.prog X.w) X.A (T6 scope X.env.globals (iB X.env.cells scope.names []) [] X.env.qual Yj .none<|O X.env) (λtf s₄=>kO (aA X.prog X.w) X.A (.compStart (.ListComp elt [⟨tg,iter,ifs,0⟩] scope pos) 0 (.ref it) acc {tf with scope:=yD scope X.env}) (RR acc tf.locals) s₄) E s₃) E s2:=by
 refine uT ?_;have hD:H2 (c6 s2)=Yj:=I2.i6.fresh<|Yu _;let⟨x3,S3,r3⟩:=S2.L hD<|aB.nil (K:=X.K) (H:=H2) (ι:=ι2);have I3:Inv X b4 σ (upd H2 (c6 s2)<|.L []) {s2 with heap:=s2.heap.push {cls:=.type "list",data:=.seq ([]:List Yh).toArray}}:=I2.laid (t':=s2.toks) (λb u e=>Yn _ e) (Yu _) ⟨g_ _,[],0,.nil,Y6 _ J⟩;have Ai:∀b o,s2.heap.get? b=O o->(s2.heap.push {cls:=.type "list",data:=.seq ([]:List Yh).toArray}).get? b=O o:=λb o e=>Yn _ e;generalize D9:({s2 with heap:=s2.heap.push {cls:=.type "list",data:=.seq ([]:List Yh).toArray}}:Yl)=s3 at I3 |-;have Ai:∀b o,s2.heap.get? b=O o->s3.heap.get? b=O o:=by rwa[<-D9]
 have lt2:∀b∈fp,b<c6 s2:=λb hb=>(T.obj _ _ AA b hb).elim λo e=>Y3 e.1;have yp:∀b∈fp,b<c6 s3:=λb hb=>(T.obj _ _ AA b hb).elim λo e=>Y3<|Ai b o e.1;exact ZnG l9 hc hb (T:=T) (st3:=T.keep _ _ _ AA λb hb o e=>Ai b o e) (yp:=yp) (I3:=I3) (o7:=λb hb=>⟨(bH<|d8<|lt2 b hb).trans (s_ b hb).1,(s_ b hb).2⟩) (x3:=x3) (S3:=S3) (E2:=E2.mono x3) (ok:=ok) (h:=h.up x3) (hι:=by rw[<-S2.len];simp) RR fin
def xH(l9:zL X scope N' own)(B_:X.xe=λ_ _=>False)(hc:X.calm=true)(hi:CI X tg iter i)(hb:∀C cl s H ex,CG (gA X scope N' C cl s H ex) tg g/\rR (gA X scope N' C cl s H ex) ifs ts/\C3 (gA X scope N' C cl s H ex) elt f)(hs:∀x,Ao iter X.env x=pure x:=by intro _;rfl):C3 X (.ListComp elt [⟨tg,iter,ifs,0⟩] scope pos) (gU i own g ts f):=by intro b4 s σ H Q I h;let⟨ι,M,env,S,E,h⟩:=h;let⟨bD,M1,e1,h⟩:=au.bind h;have xk:∀y∈scope.names,y.2= .free->∃c,X.env.cells.lookup y.1=O c:=λy hy e=>I.ok.has y.1<|l9.free y hy e;rw[eval_ListComp];refine MJ (use:=Yj) J hs (Qp xk) l9.kind l9.names ?_;refine aP (hi b4 s σ H (λi4 H'=>∃ι',Ext X.K H ι H' ι'/\aF X.K H' ι' M1/\ul X.K H' ι' bD i4) I ⟨ι,M,env,S,E,by rw[e1];exactλi4 H' ι' x S' o=>⟨ι',x,S',o⟩⟩) λv s1 h1=>aP h1 λAN s2 h2=>?_;let⟨it,fp,tn,i4,H2,rfl,I2,T,xn,f2,ι2,x2,S2,ok⟩:=h2;refine VY (own:=own) (g:=g) (ts:=ts) (f:=f) l9 hc hb I2 T xn f2 S2 (E.mono x2) ok (h.up x2) (λacc C=>Nj (aA X.prog X.w) X.A X.xe Yj (EP X b4 σ Q) acc C) ?_;intro acc C s' m H' hn hf I' hq;let⟨f0,f1,Xy,f3,f4,f5⟩:=hf;exact⟨m,hn,λh' sb=>⟨.ref acc,H',I'.turned (t':=s'.toks) (λb o hb e=>(sb.2 b hb).trans e) f0 f1 f3 f4 f5,rfl,hq⟩⟩
def VZ(j:Nat){x:aj}{pos' sf:a_}(l9:zL X scope N' own)(B_:X.xe=λ_ _=>False)(hc:X.calm=true)(hN:X.N.Nodup)(hi:CI X tg iter i)(hb:∀C cl s H ex,CG (gA X scope N' C cl s H ex) tg g/\rR (gA X scope N' C cl s H ex) ifs ts/\C3 (gA X scope N' C cl s H ex) elt f)(hj:X.N[j]?=O x:=by rfl)(hx:Loc X.env.scope x:=by first|exact Or.inl rfl|exact Or.inr J)(hf:X.fn x=true\/X.env.scope.names.lookup x=O .local:=by first|exact .inl rfl|exact .inr J)(Ee:tG (.ListComp elt [⟨tg,iter,ifs,0⟩] scope pos) (O (.Name x pos')) sf.line X.env=pure true:=by rfl)(hs:∀x,Ao iter X.env x=pure x:=by intro _;rfl):CS X (.Assign [.Name x pos'] (.ListComp elt [⟨tg,iter,ifs,0⟩] scope pos) sf) (aC j (gU i own g ts f)):=by
 intro b4 s σ H D I h;let⟨ι,M,env,S,E,h⟩:=h;have h0:au X.K H ι (λv H'=>D.nx (σ.set j<|O v) H') (gU i own g ts f env M):=by
  unfold aC at h;cases q:gU i own g ts f env M with
  |ok d M1=>rw[q]at h;exactλv H1 ι1 x1 S1 r1=>h _ H1 ι1 x1 S1 ((E.mono x1).set j r1)|exc _ _=>rw[q]at h;cases h|bad=>rw[q]at h;cases h
 let⟨bD,M1,e1,h1⟩:=au.bind h0;have xk:∀y∈scope.names,y.2= .free->∃c,X.env.cells.lookup y.1=O c:=λy hy e=>I.ok.has y.1<|l9.free y hy e;rw[IT _ _ _ _ Ee];refine Yc<|tD<|Yc ?_;show aq _ X.A (do let _ ←comprehension (.ListComp elt [⟨tg,iter,ifs,0⟩] scope pos) scope X.env _ (Nr []) false (aO iter X.env) (O<|kW (.Name x pos') X.env)) _ _ s;refine Yc<|gD (MJ (use:=O<|kW (.Name x pos') X.env) (Q:=λ_ s'=>SP X b4 D .next s') J hs (Qp xk) l9.kind l9.names ?_) (λ_ s' hq=>Yr<|Yr hq) λ_ _ e=>e;refine aP (hi b4 s σ H (λi4 H'=>∃ι',Ext X.K H ι H' ι'/\aF X.K H' ι' M1/\ul X.K H' ι' bD i4) I ⟨ι,M,env,S,E,by rw[e1];exactλi4 H' ι' x S' o=>⟨ι',x,S',o⟩⟩) λv s1 A8=>aP A8 λAN s2 h2=>?_;let⟨it,fp,tn,i4,H2,rfl,I2,T,xn,f2,ι2,x2,S2,ok⟩:=h2;refine VY (own:=own) (g:=g) (ts:=ts) (f:=f) l9 hc hb I2 T xn f2 S2 (E.mono x2) ok (h1.up x2) (λacc C=>Nj (aA X.prog X.w) X.A X.xe (O<|kW (.Name x pos') X.env) (λ_ s'=>SP X b4 D .next s') acc C) ?_;intro acc C s' m H' hn Xz I' hq;let⟨f0,f1,Xy,f3,f4,f5⟩:=Xz;show aq _ X.A (kW (.Name x pos') X.env<|.ref acc) _ _ s';refine TQ<|V6 I' hN hj hx (show RelV (.ref acc) (.ref acc)from rfl) (λzI XC ⟨a,sb,ha⟩=>?_) hf;have XD:C≠a:=by
  rcases ha with rfl|ha
  .exact f1
  .exact cu<|f4 x a ha
 exact⟨m,hn.sameBut sb XD,λh' XF=>⟨_,H',XC.turned (t':=zI.toks) (λb o hb e=>(XF.2 b hb).trans e) f0 f1 f3 f4 f5,hq⟩⟩
end
def gG{k:Nat}(r:dM k A):A.units+80<lK:=by have:=r.un;omega
def Its(x:aj):It:=⟨λi _=>i<x.cps.size,λi H y H'=>H'=H/\∃c,x.cps[i]?=O c/\y= .str ⟨#[c]⟩,λi _=>i=x.cps.size⟩
def Zrw{P:Y9}{w:aQ}{tg:Expr}{x:aj}{t:gq}{ty:String}(W:∀A':bG,A'.handled=Yj->Walks P w A' it [it] [it] x.cps.size (SignAt x) (λi h=>h.IsStrIter it ty x t i))(hs:∀(A:bG) (i:Nat) (s:Yl) (Q:Yh->Yl->Prop) (E:Yh->Yl->Prop),s.heap.IsStrIter it ty x t i->Q (.ref it) s->aq (aA P w) A (Em<|.ref it) Q E s)(wc:BU.contains ty=false):Turn P w K tg (Its x) [it] it (λi h=>h.IsStrIter it ty x t i)where
 mem:=by simp
 obj:=λi h st b hb=>by
  have e:b=it:=by simpa using hb
  subst e;let⟨o,e,c,d⟩:=st;exact⟨o,e,λv z=>by rw[d]at z;cases z⟩
 keep:=λi h h' st k=>let⟨o,e,r⟩:=st;⟨o,k it i9 o e,r⟩
 item:=by intro X hP hw hK hc i b4 s σ H E I hf st hg;subst hP hw hK;let⟨f0,f1,f2,f3,f4,f5⟩:=hf it i9;refine(W X.A<|I.ok.hd hc).item i s _ _ hg st λv h' tk hv tJ kk=>?_;let⟨c,u,hx,rfl⟩:=hv;have I1:Inv X b4 σ H {s with heap:=h',toks:=tk}:=I.turned (λb o hb e=>kk b o (by simpa using hb) e) f0 f1 f3 f4 f5;let⟨o,e,abv,d⟩:=id tJ;exact⟨_,rfl,Pq (s:={s with heap:=h',toks:=tk}) e abv d wc ⟨.str ⟨#[c]⟩,H,I1,⟨u,rfl⟩,⟨rfl,c,hx,rfl⟩,tJ,λb hb=>(hf b hb).1⟩⟩
 done:=by intro X hP hw hK hc i b4 s σ H E I hf st hg;subst hP hw hK;let⟨f0,f1,f2,f3,f4,f5⟩:=hf it i9;have e:i=x.cps.size:=hg;subst e;exact(W X.A<|I.ok.hd hc).done s _ _ st λh' tk kk=>⟨rfl,I.turned (λb o hb e=>kk b o (by simpa using hb) e) f0 f1 f3 f4 f5⟩
 self:=hs
section
variable {X:Cx} {tg e o:Expr} {es:List Expr} {pos p apos f_:a_} {f:E3} {gl:d_}
def ZxZ(h:C3 X e f):PI X tg e (λσ H R=>oO X.K f σ H λx H1=>∃z:aj,x= .str z/\z.length<=SZ/\∀i4,(∀ι,ul X.K H1 ι ⟨z.cps.toList.map λc=>.str [c],Yj⟩ i4)->R i4 H1):=by
 intro b4 s σ H R I hw;refine aP (h b4 s σ H _ I hw) λv s1 ak=>?_;let⟨x,H1,I1,r1,z,ex,hz,q⟩:=ak;subst ex;let⟨t,rfl⟩:=r1;have key:∀(ty:String) (o:aK),(∀A':bG,A'.handled=Yj->Walks X.prog X.w A' (c6 s1) [c6 s1] [c6 s1] z.cps.size (SignAt z) (λi h=>h.IsStrIter (c6 s1) ty z t i)) ->
   (∀(A:bG) (i:Nat) (s:Yl) (Q:Yh->Yl->Prop) (E:Yh->Yl->Prop),s.heap.IsStrIter (c6 s1) ty z t i->Q (.ref<|c6 s1) s->aq (aA X.prog X.w) A (Em<|.ref<|c6 s1) Q E s) ->
   BU.contains ty=false->(s1.heap.push o).IsStrIter (c6 s1) ty z t 0 ->
   De X b4 σ tg R (.ref<|c6 s1) {s1 with heap:=s1.heap.push o}:=by
  intro ty o W hs wc st;refine⟨c6 s1,[c6 s1],_,_,H1,rfl,I1.kept (t':=s1.toks) λb o e=>Yn _ e,Zrw W hs wc,st,λb hb=>?_,q _ λι=>?_⟩
  .have e:b=c6 s1:=by simpa using hb
   subst e;exact I1.yj (Yu _)<|I1.i6.fresh<|Yu _
  .intro i H2 ι2 M2 x S _;refine⟨λd hd=>?_,λhl=>?_⟩
   .rw[jg]at hd;cases hq:z.cps.toList[i]? with
    |none=>rw[hq]at hd;cases hd|some c=>
     rw[hq]at hd;have vj:D.str [c]=d:=by simpa using hd
     subst vj;have hi:i<z.cps.size:=by have:=(Yg.mp hq).1;simpa using this
     refine⟨hi,λy H3 hy=>⟨hy.1,?_⟩⟩;let⟨_,c',tF,rfl⟩:=hy;have:c'=c:=by rw[<-Vp,hq]at tF;exact(fM tF).symm
     subst this;exact Rep.str
   .show i=z.cps.size;rw[hl];simp
 cases ha:z.cps.all (· <128)
 .exact wpAny_pyIter_wide ha<|key "str_iterator" _ (λA' hA=>Walks.strWide hA _ z t) (λ_ _ _ _ _ st h=>wpAny_pyIter_striter_wide st h) aaA ⟨_,Y6 _ J,rfl,rfl⟩
 .exact wpAny_pyIter_ascii ha<|key "str_ascii_iterator" _ (λA' hA=>Walks.strAscii hA _ z t) (λ_ _ _ _ _ st h=>wpAny_pyIter_striter_ascii st h) aaA ⟨_,Y6 _ J,rfl,rfl⟩
def qQ(h:C3 X e f):CI X tg e (eG f):=Zx8 h<|ZxZ h
def JR{T:String}{ty:D->b3->Bool}{m:D->c9->b3->R3 D}(wc:∀H ι M a x,aF K H ι M->Rep K H ι a x->ty a M=true->Br K T x H)(σ:St)(H:Hp)(Q:VK)(h:oO K (aU ty m f gl) σ H Q):RS K T (rM K m) (oO K f) (W9 K gl) σ H Q:=by
 let⟨ι,M,env,S,E,h⟩:=h;let⟨a,M1,e1,h⟩:=au.bind h;refine⟨ι,M,env,S,E,?_⟩;rw[e1];intro v H1 ι1 x1 S1 r1;by_cases ht:ty a M1=true
 .rw[c_ ht]at h;let⟨ds,M2,e2,h⟩:=au.bind h;refine⟨wc _ _ _ _ _ S1 r1 ht,ι1,M1,env,S1,E.mono x1,?_⟩;rw[e2];intro vs H2 ι2 x2 S2 r2;exact⟨ι2,M2,a,ds,S2,r1.mono x2,r2,(h.up x1).up x2⟩
 .rw[d4 ht]at h;cases h
def XH(H:Hp)(ι:List Yy)(M:b3)(a:D)(x:V)(_:aF K H ι M)(r:Rep K H ι a x)(h:fQ a M=true):Br K "str" x H:=by
 cases a with
 |str z=>rw[r.str_inv];rfl|_=>exact ft h
def XJ(H:Hp)(ι:List Yy)(M:b3)(a:D)(x:V)(S:aF K H ι M)(r:Rep K H ι a x)(h:bK a M=true):Br K "list" x H:=by
 cases a with
 | ref n=>
  rw[Fw]at h;cases hn:M[n]? with
  |none=>rw[hn]at h;exact ft h|some o=>
   cases o with
   |qq _=>rw[hn]at h;exact ft h|dY _=>rw[hn]at h;exact ft h|ins _ _=>rw[hn]at h;exact ft h|L xs=>let⟨p,hp,rfl⟩:=r.fG;let⟨vs,e,_⟩:=S.obj n _ p hn hp;exact .inl ⟨rfl,vs,bV.of e⟩
 |_=>exact ft h
def _root_.L2.mZ.imp{id:String}{r r':V->List V->Hp->VK->Prop}(h:mZ X id r)(i:∀x xs H Q,r' x xs H Q->r x xs H Q):mZ X id r':=λb4 s σ H x xs v us Q I rx rs q=>h b4 s σ H x xs v us Q I rx rs<|i x xs H Q q
def ZsU:mZ X "list.append" (rM X.K cD):=mZ.imp (r:=R1) Wz λx xs H Q ak=>by
 let⟨ι,M,a,ds,S,ra,rd,h⟩:=ak;cases a with
 | ref n=>
  cases ds with
  |nil=>cases h|cons d ds=>
   cases ds with
   |cons _ _=>cases h|nil=>
    simp only[WQ]at h;cases hn:M[n]? with
    |none=>simp only[hn]at h;cases h|some o=>
     cases o with
     |qq _=>simp only[hn]at h;cases h|dY _=>simp only[hn]at h;cases h|ins _ _=>simp only[hn]at h;cases h|L z=>
      simp only[hn]at h;split at h
      .rename_i hz;let⟨p,hp,rfl⟩:=ra.fG;let⟨v,ws,rfl,r1,r2⟩:=rd.cons_inv;have:=r2.nil_inv;subst this;let⟨vs,e,rv⟩:=S.obj n _ p hn hp;let⟨x2,S2⟩:=S.yo (.inr<|.inl ⟨_,e⟩) hp<|rv.append<|aB.cons r1 aB.nil;exact⟨p,vs,v,rfl,rfl,e,by rw[rv.length];exact Y5 hz mC,h _ _ _ x2 S2 Rep.Z⟩
      .exact h.elim
 |_=>cases h
def lD(ho:C3 X o f)(ha:CA X (e::es) gl)(p9:o9 o "append" X.env (aO o X.env)=aO o X.env:=by rfl)(rX:((b8 f_<|Yv (e::es) X.env).all (λx=>!x.1)&&(jN f_<|jL [] X.env).all (λx=>x.1.isSome)
   &&decide ((e::es).length+([]:List Keyword).length+(if([]:List Keyword).isEmpty then 0 else 1)<30))=true:=by rfl)(o3:(apos.endLine==f_.line)=true:=by rfl)(hs:Yv (e::es) X.env=(false,aO e X.env)::Yv es X.env:=by rfl)(p4:(b8 f_<|Yv es X.env).any (·.1)=false:=by rfl):
  C3 X (.Call (.Attribute o "append" apos) (e::es) [] f_) (aU bK cD f gl):=
 (Jg Vs PySem.F.slot_list_append PySem.F.type_list_append ZsU ho ha p9 rX o3 hs p4).imp (JR XJ)
def Zvr(x y:b9):OH (⟨kb x⟩:aj) ⟨kb y⟩=y.isPrefixOf x:=by
 unfold OH Builtin.Str.subAt;simp only[n6,Yt,yO];rw[Ve];simp only[gO,decide_eq_true_eq,beq_iff_eq,List.isPrefixOf_iff_prefix];constructor
 .rintro⟨_,h⟩;have h':=congrArg Ez h;simp at h';rw[Kx];exact h'.symm
 .intro h;refine⟨h.length_le,?_⟩;rw[Kx]at h;apply Array.toList_inj.mp;simp;exact h.symm
def m_startswith:mZ X "str.startswith" (rM X.K qJ):=by
 intro b4 s σ H x xs v us Q I rx rs h;let⟨ι,M,a,ds,S,ra,rd,h⟩:=h;cases a with
 | str z=>
  cases ds with
  |nil=>cases h|cons d ds=>
   cases ds with
   |cons _ _=>cases d<;>cases h|nil=>
    cases d with
    | str y=>
     simp only[BL]at h;split at h
     .have:=ra.str_inv;subst this;let⟨w',ws,rfl,r1,r2⟩:=rd.cons_inv;have:=r2.nil_inv;subst this;have:=r1.str_inv;subst this;let⟨t,rfl⟩:=rx;let⟨u,rfl,ru⟩:=vals1 rs;let⟨t',rfl⟩:=ru;refine SC.startswith ?_;rw[Zvr];exact⟨.bl _,H,I,rfl,au.ok h S Rep.bl⟩
     .exact h.elim
    |_=>cases h
 |_=>cases h
def We(ho:C3 X o f)(ha:CA X (e::es) gl)(p9:o9 o "startswith" X.env (aO o X.env)=aO o X.env:=by rfl)(rX:((b8 f_<|Yv (e::es) X.env).all (λx=>!x.1)&&(jN f_<|jL [] X.env).all (λx=>x.1.isSome)
   &&decide ((e::es).length+([]:List Keyword).length+(if([]:List Keyword).isEmpty then 0 else 1)<30))=true:=by rfl)(o3:(apos.endLine==f_.line)=true:=by rfl)(hs:Yv (e::es) X.env=(false,aO e X.env)::Yv es X.env:=by rfl)(p4:(b8 f_<|Yv es X.env).any (·.1)=false:=by rfl):
  C3 X (.Call (.Attribute o "startswith" apos) (e::es) [] f_) (aU fQ qJ f gl):=
 (Jg Vu PySem.F.slot_str_startswith PySem.F.type_str_startswith m_startswith ho ha p9 rX o3 hs p4).imp (JR XH)
def Zzk:bA X (gM .In) (r2 X.K λa b M=>match a,b with| .str [c],.str y=>.ok (.bl<|decide<|c∈y) M|_,_=>.bad):=bA.imp Zqt λx y H Q ak=>by
 let⟨ι,M,a,b,S,ra,rb,h⟩:=ak;cases a with
 | str z=>
  cases z with
  |nil=>cases b<;>cases h|cons c z=>
   cases z with
   |cons _ _=>cases b<;>cases h|nil=>
    cases b with
    |str y=>refine⟨_,_,ra.str_inv,rb.str_inv,?_⟩;have e:=StrLaws.found_one (⟨kb y⟩:aj) c;rw[show(⟨[c].toArray⟩:aj)=⟨#[c]⟩from rfl,e];exact au.ok h S Rep.bl|_=>cases h
 |_=>cases b<;>cases h
end
variable{items:Array Yh}{Q:Yh->Yl->Prop}
section
variable {X:Cx}
def Qy(hu:X.A.units+80<lK):bA X (gM .NotEq) (r2 X.K iJ):=by
 intro b4 s σ H x y v u Q I rx ry h;let⟨ι,M,a,b,S,ra,rb,h⟩:=h;unfold iJ at h;cases q:t8 a b M with
 |none=>rw[q]at h;cases h|some k=>rw[q]at h;exact(Xl hu I S ra rb rx ry q).2 X.prog X.w X.xe _ ⟨.bl<|!k,H,I,rfl,au.ok h S Rep.bl⟩
def WA(r:Rep K H ι d v)(h:e_ d=true):vo v=true:=by
 cases d with
 |Z=>rw[r.kh];rfl|bl b=>rw[r.iW];rfl|int i=>rw[r.int_inv];rfl|str x=>rw[r.str_inv];rfl
 |_=>exact ft h
def ZuJ(x y:b9):((⟨kb x⟩:aj)==⟨kb y⟩)=(x==y):=by rw[Ve];simp
def ZvK{e:D}{v w:V}(r:Rep K H ι d v)(q:Rep K H ι e w)(h:e_ d=true)(h':e_ e=true):wW v w=fP d e:=by
 cases d with
 |Z=>rw[r.kh];cases e with
  |Z=>rw[q.kh];rfl|bl _=>rw[q.iW];rfl|int _=>rw[q.int_inv];rfl|str _=>rw[q.str_inv];rfl
  |_=>exact ft h'
 |bl _=>rw[r.iW];cases e with
  |Z=>rw[q.kh];rfl|bl _=>rw[q.iW];rfl|int _=>rw[q.int_inv];rfl|str _=>rw[q.str_inv];rfl
  |_=>exact ft h'
 |int _=>rw[r.int_inv];cases e with
  |Z=>rw[q.kh];rfl|bl _=>rw[q.iW];rfl|int _=>rw[q.int_inv];rfl|str _=>rw[q.str_inv];rfl
  |_=>exact ft h'
 |str _=>rw[r.str_inv];cases e with
  |Z=>rw[q.kh];rfl|bl _=>rw[q.iW];rfl|int _=>rw[q.int_inv];rfl|str _=>rw[q.str_inv];exact ZuJ _ _
  |_=>exact ft h'
 |_=>exact ft h
theorem WB{K:Yb}{H:Hp}{ι:List Yy}{d:D}{v:V}(r:Rep K H ι d v)(h:e_ d=true):∀{ds:c9} {vs:List V},aB K H ι ds vs->ds.all e_=true->vs.all vo=true/\B5 v vs=ds.any λy=>fP y d
 |[],_,q,_=>by rw[q.nil_inv];exact⟨rfl,rfl⟩|e::ds,_,q,hd=>by let⟨w,ws,rfl,r1,r2⟩:=q.cons_inv;rw[lQ,gO]at hd;let⟨h1,h2⟩:=WB r h r2 hd.2;refine⟨by rw[lQ,WA r1 hd.1,h1];rfl,?_⟩;unfold B5 at h2 |-;rw[nY,nY,h2,ZvK r1 r hd.1 h]
inductive InK(a b:D)(k:Bool):Prop
 |U (ys:c9):b= .U ys->(ys.any λy=>fP y a)=k->e_ a=true->ys.all e_=true->InK a b k
 |str (c:Nat) (y:b9):a= .str [c]->b= .str y->decide (c∈y)=k->InK a b k
def inK{a b:D}{k:Bool}(h:inD a b=O k):InK a b k:=by
 cases b with
 |U ys=>exact have w:=Xk h;.U ys J w.1 w.2.1 w.2.2|str y=>
  cases a with
  | str z=>cases z with
   |nil=>exact j4 h|cons c z=>cases z with
    |nil=>exact .str c y J J (fM h)|cons _ _=>exact j4 h
  |_=>exact j4 h
 |_=>exact j4 h
def ZwS{Q:VK}{a:D}{ys:c9}{x y:V}(n:Bool)(ra:Rep K H ι a x)(rb:Rep K H ι (.U ys) y)(fa:e_ a=true)(fs:ys.all e_=true)(q:Q (.bl<|if n then !(ys.any λy=>fP y a)else ys.any λy=>fP y a) H):RH K n x y H Q:=by let⟨p,vs,e,s,r⟩:=rb.kj;let⟨h1,h2⟩:=WB ra fa r fs;exact⟨p,vs,e,.inr s,WA ra fa,h1,by rwa[h2]⟩
def XM(hu:X.A.units+80<lK):bA X (gM .In) (r2 X.K ni):=bA.imp (bA.or Zzk ZqS) λx y H Q ak=>by
 let⟨ι,M,a,b,S,ra,rb,h⟩:=ak;unfold ni at h;cases q:inD a b with
 |none=>rw[q]at h;cases h|some k=>
  rw[q]at h;rcases inK q with⟨ys,eb,ek,fa,fs⟩|⟨c,z,ea,eb,ek⟩
  .rw[eb]at rb;rw[<-ek]at h;exact .inr<|ZwS false ra rb fa fs<|au.ok h S Rep.bl
  .rw[ea]at ra;rw[eb]at rb;rw[<-ek]at h;exact .inl ⟨ι,M,_,_,S,ra,rb,h⟩
def Zti(x:b9)(n:Nat)(a:b9):(Yq n x.toArray).foldl (· ++ ·) a.toArray=(a++(Yq n x).flatten).toArray:=by
 induction n generalizing a with
 |zero=>simp|succ n ih=>rw[wL,rA,wL,q_];have:=ih<|a++x;simp only[List.append_toArray]at this |-;rw[this];simp
def Zyk(x:b9)(k:Int):Txt.mul (⟨kb x⟩:aj) k=⟨(Yq k.toNat x).flatten.toArray⟩:=by
 unfold Txt.mul;split
 .rename_i h;have:k.toNat=0:=fY (lR<|Int.toNat_of_nonpos b5)<|g_ _;rw[this];rfl
 .split
  .rename_i h1 h2;simp only[yS,beq_iff_eq,n6,Yt]at h2;rcases h2 with h2|h2
   .subst h2;simp
   .have:x=[]:=Nt h2;subst this;simp
  .have:=Zti x k.toNat [];rw[jw]at this;exact congrArg Str.mk this
theorem aB.uB(r:aB K H ι ds vs):∀k:Nat,aB K H ι (Yq k ds).flatten (Yq k vs).flatten
 |0=>aB.nil|k+1=>by rw[wL,wL,q_,q_];exact r.append<|aB.uB r k
def xJ:bA X (jM .Mult) (r2 X.K gQ):=by
 have hs:bA X (jM .Mult) (λx y H Q=>∃(z:b9) (k:Int),x= .str ⟨kb z⟩/\y= .int k/\z.length*k.toNat<=1000000/\k<1000000/\ -1000000<k/\Q (.str ⟨(Yq k.toNat z).flatten.toArray⟩) H):=by
  intro b4 s σ H x y v u Q I rx ry h;let⟨z,k,rfl,rfl,h1,h2,h3,q⟩:=h;let⟨t,rfl⟩:=rx;let⟨t',rfl⟩:=ry;refine SB.mul ⟨?_,λh4 h5=>?_,λh4 h5=>?_⟩ λt'' tk=>?_
  .simp;omega
  .simp only[n6,Yt];simp at h4 h5;have hk:2<=k:=by
    simp only[n6,Yt]at h5;omega
   have e:(k.toNat:Int)=k:=tW (Ij<|Ii b5)<|(Ol _);have hm:(z.length:Int)*k<=1000000:=by have A8:((z.length*k.toNat:Nat):Int)<=1000000:=Vg.mpr h1;rwa[Vf,e]at A8
   have hd:(z.length:Int)<=9223372036854775807 / k:=Int.le_ediv_of_mul_le b5 b5;show¬((z.length:Int)>(2^63-1) / k);have e3:((2:Int)^63-1)=9223372036854775807:=by decide
   rw[e3];exactλz=>by omega
  .unfold ML;simp only[n6,Yt,decide_eq_false_iff_not];have sh:(1000000:Nat)<=bI:=mC;exactλz=>by omega
  .rw[Zyk];exact⟨.str _,H,I.tok _,⟨_,rfl⟩,q⟩
 refine bA.imp (bA.or Zwm<|bA.or hs ZwK) λx y H Q ak=>?_;let⟨ι,M,a,b,S,ra,rb,h⟩:=ak;cases a with
 | int i=>cases b with
  |int j=>let⟨hm,h⟩:=zG h;refine .inl ⟨i,j,ra.int_inv,rb.int_inv,?_,au.ok h S Rep.int⟩;simp only[wY,yS,gO,decide_eq_true_eq]at hm;exact hm|_=>cases h
 | str z=>cases b with
  |int k=>let⟨hz,h⟩:=zG h;exact .inr (.inl ⟨z,k,ra.str_inv,rb.int_inv,hz.1,hz.2.1,hz.2.2,au.ok h S Rep.str⟩)|_=>cases h
 | ref n=>cases b with
  |int k=>
   have h:au X.K H ι Q (Ca M[n]? λx=>@ite _ (x.length*k.toNat<=SZ/\k<1000000/\ -1000000<k) (Yz _) (alloc (.L (Yq k.toNat x).flatten) M) .bad):=h;let⟨z,hn,h⟩:=Qm h;let⟨hz,h⟩:=zG h;let⟨p,hp,e'⟩:=ra.fG;let⟨vs,e,r⟩:=S.obj n _ p hn hp;refine .inr (.inr ⟨p,k,vs,e',rb.int_inv,e,?_,?_,by rw[r.length];exact Yi hz.1 mC,λq hq=>?_⟩)
   .exact Int.le_trans aaA<|Om hz.2.2
   .exact Mb hz.2.1 aaA
   let⟨x2,S2,r2⟩:=S.L hq<|aB.uB r k.toNat;exact h _ _ _ x2 S2 r2
  |_=>cases h
 |_=>cases b<;>cases h
def WC(n d:Nat)(hd:d<=n)(o:Option Int):(match o with|none=>(d:Int)|some i=>max 0<|gw (if i<0 then i+(n:Int)else i) (n:Int))=((aR n d o:Nat):Int):=by
 cases o with
 |none=>rfl|some v=>
  show max 0 (gw (if v<0 then v+(n:Int)else v) (n:Int))=(((if v<0 then(v+(n:Int)).toNat else gw v.toNat n):Nat):Int);by_cases h:v<0
  .rw[c_ h,c_ h];exact V2 v n h
  .rw[d4 h,d4 h];exact V3 v n h
def WE(lo hi:Option Int)(n:Nat):Ou lo hi 1 n=(jO<|aR n n hi-aR n 0 lo).map (λk=>aR n 0 lo+k):=by
 have e1:=WC n 0 (g_ _) lo;have e2:=WC n n (Yu _) hi;have key:Ou lo hi 1 n=sliceRange ((aR n 0 lo:Nat):Int) ((aR n n hi:Nat):Int) 1:=by rw[<-e1,<-e2];simp only[Ou,show((1:Int)>0)=True from by simp,if_true];cases lo<;>cases hi<;>rfl
 rw[key];generalize aR n 0 lo=a;generalize aR n n hi=b;simp only[sliceRange,show((1:Int)>0)=True from by simp,if_true];by_cases j1:(a:Int)<b
 .have e3:(((b:Int)-a+1-1) / 1).toNat=b-a:=by first|exact fY b5 (by omega)|(simp;done)|(simp;omega)
  simp only[j1,if_true,e3];refine KS λk _=>?_;exact fY b5 b5
 .have:b-a=0:=fY (lR<|LG b5)<|g_ _;simp[j1,this]
def Pz(n d:Nat)(hd:d<=n)(o:Option Int):aR n d o<=n:=by
 cases o with
 |none=>exact hd|some v=>simp only[aR];split <;>omega
def Zok(z:b9)(lo hi:Option Int)(l u:Option (Int×gq))(hl:l.map (·.1)=lo)(hu:u.map (·.1)=hi):
  (if((1:Int)==1&&(Aw ⟨kb z⟩ l u Yj).length==(⟨kb z⟩:aj).length)=true then(⟨kb z⟩:aj)else⟨((Aw ⟨kb z⟩ l u Yj).filterMap ((⟨kb z⟩:aj).cps[·]?)).toArray⟩)=⟨(cutD z lo hi).toArray⟩:=by
 have e0:Aw ⟨kb z⟩ l u Yj=(jO<|aR z.length z.length hi-aR z.length 0 lo).map (λk=>aR z.length 0 lo+k):=by unfold Aw;rw[hl,hu];simp only[n6,Yt];exact WE lo hi z.length
 have hb:=Pz z.length z.length (Yu _) hi;rw[e0];have pick:((jO<|aR z.length z.length hi-aR z.length 0 lo).map λk=>aR z.length 0 lo+k).filterMap ((⟨kb z⟩:aj).cps[·]?)=cutD z lo hi:=by
  unfold cutD;by_cases hab:aR z.length 0 lo<=aR z.length z.length hi
  .have h:=StrLaws.picks z (aR z.length z.length hi-aR z.length 0 lo) (aR z.length 0 lo) b5;simpa using h
  .have:aR z.length z.length hi-aR z.length 0 lo=0:=fY (lR<|LG b5)<|g_ _;rw[this];simp
 rw[pick];split
 .rename_i hc;simp only[Ym,UG,n6,Yt,gO,beq_iff_eq]at hc;have uA:=hc.2;have h0:aR z.length 0 lo=0\/z.length=0:=by omega
  have:cutD z lo hi=z:=by
   unfold cutD;rcases h0 with h0|h0
   .rw[h0,Ib,tL b5]
   .have:z=[]:=Nt h0;subst this;simp
  rw[this]
 .rfl
def Zwl:lU X (λx lo hi H Q=>∃z:b9,x= .str ⟨kb z⟩/\z.length<=SZ/\Q (.str ⟨(cutD z lo hi).toArray⟩) H):=by
 intro b4 s σ H x v vl vu lo hi sl Q I rx hs pl pu h;let⟨z,rfl,hz,q⟩:=h;let⟨t,rfl⟩:=rx;have part:∀{v:Yh} {o:Option Int},IsPart v o->∃p:Option (Int×gq),v=partValue p/\p.map (·.1)=o:=by
  intro v o h;cases h with
  |none=>exact⟨Yj,rfl,rfl⟩|int i t=>exact⟨O (i,t),rfl,rfl⟩
 let⟨l,rfl,hl⟩:=part pl;let⟨u,rfl,hu⟩:=part pu;refine⟨"str",_,PySem.F.slot_str_getitem.lookup,Eh _ _ _,?_⟩;refine wpAny_getItem_str_slice (l:=l) (u:=u) (st:=Yj) hs J ?_;unfold sliceMade;refine post_val_or_made (λ_=>?_) λt' k=>?_
 .show((Aw ⟨kb z⟩ l u Yj).filterMap ((⟨kb z⟩:aj).cps[·]?)).toArray.size<=bI;rw[Yt];refine Yi (List.length_filterMap_le _ _) ?_;show(Ou (l.map (·.1)) (u.map (·.1)) 1 (⟨kb z⟩:aj).length).length<=bI;rw[WE];simp only[Ym,UG,n6,Yt];have:=Pz z.length z.length (Yu _)<|u.map (·.1);have:=mC;omega
 .have e:=Zok z lo hi l u hl hu;have e':(if(((Yj:Option (Int×gq)).map (·.1)).getD 1==1&&(Aw ⟨kb z⟩ l u Yj).length==(⟨kb z⟩:aj).length)=true then(⟨kb z⟩:aj)else⟨((Aw ⟨kb z⟩ l u Yj).filterMap ((⟨kb z⟩:aj).cps[·]?)).toArray⟩)=⟨(cutD z lo hi).toArray⟩:=e;rw[e'];exact⟨.str _,H,I.tok _,⟨_,rfl⟩,q⟩
def Zhk{prog:Y9}{w:aQ}{t sl:Yy}{vl vu:Yh}{lo hi:Option Int}(ht:IsTup s.heap t items)(hs:s.heap.IsSliceOf sl vl vu .none)(pl:IsPart vl lo)(pu:IsPart vu hi)(hw:HT.aR items.size 0 lo=0/\HT.aR items.size items.size hi=items.size)(h:Q (.ref t) s):aq (aA prog w) A (tH (.ref t)<|.ref sl) Q E s:=by
 let⟨os,z4,B4,A4⟩:=id hs;have DD:s.TypeIs (.ref sl) "slice":=⟨os,z4,B4⟩;unfold tH
 try with_reducible refine fW ?_
 first|refine Yc (Yr ?_)|skip
 refine Yc<|TV ht.typeIs aaA ?_;refine Yc (Al (name:=rC "__getitem__") ht.typeIs Oq
  (yu Oq ht.typeIs MD ?_<|MG _ _))
 show aq _ _ (NL (.ref t)>>=_) _ _ s;refine Yc<|tupleItemsOf_ ht ?_;refine Yc<|Nb DD ?_;rw[c_ aaA];refine Yc<|HT.Q1 hs pl pu ?_;have AeG:(((HT.aR items.size 0 lo:Nat):Int)==0&&(1:Int)==1&&(HT.aR items.size items.size hi-HT.aR items.size 0 lo)==items.size)=true:=by rw[hw.1,hw.2];simp
 show aq _ _ (if(((HT.aR items.size 0 lo:Nat):Int)==0&&(1:Int)==1&&(HT.aR items.size items.size hi-HT.aR items.size 0 lo)==items.size)=true then _ else _) _ _ s;rw[c_ AeG];unfold Builtin.Tuple.tupleIsExact;refine Yc<|Yc<|Nb ht.typeIs<|Yr ?_;rw[c_ aaA];exact Yc<|Ni<|Yr ⟨_,rfl,Yr h⟩
def Zvp:lU X (λx lo hi H Q=>∃a xs,x= .ref a/\dJ X.K H a xs/\(HT.aR (B xs) 0 lo=0/\HT.aR (B xs) (B xs) hi=B xs)/\Q (.ref a) H):=by
 intro b4 s σ H x v vl vu lo hi sl Q I rx hs pl pu h;let⟨a,xs,rfl,hx,hw,q⟩:=h;cases rx;let⟨b6,r,ht,hz⟩:=I.tuple hx;have hlen:b6.toArray.size=B xs:=by rw[Yt];exact r.length.symm
 refine⟨"tuple",_,PyProof.Rows.slot_tuple_getitem.lookup,ht.typeIs,?_⟩;exact Zhk ht hs pl pu (by rwa[hlen]) ⟨.ref a,H,I,rfl,q⟩
def jc:lU X (rS X.K):=lU.imp (lU.or (lU.or Zw0 Zvp)<|lU.or Zuf Zwl) λx lo hi H Q ak=>by
 let⟨ι,M,a,S,ra,h⟩:=ak;have ex:∀n d o,HT.aR n d o=aR n d o:=λn d o=>by cases o<;>rfl
 cases a with
 | U ds=>
  simp only[Fo,Fp,Bw,zm]at h;let⟨p,vs,rfl,s,r⟩:=ra.kj;by_cases hw:aR (B ds) 0 lo=0/\aR (B ds) (B ds) hi=ds.length
  .refine .inl (.inr ⟨p,vs,rfl,s,by rwa[ex,ex,r.length],?_⟩);have e:cutD ds lo hi=ds:=by unfold cutD;rw[hw.1,hw.2];simp
   rw[e]at h;exact au.ok h S<|Rep.U s r
  .refine .inl (.inl ⟨p,vs,rfl,s,by rwa[ex,ex,r.length],λq hq=>?_⟩);let⟨x2,S2,r2⟩:=S.wz hq<|Xn r lo hi;exact h _ _ _ x2 S2 r2
 |bB ds=>simp only[Fo,Fp,Bw,zm]at h;let⟨p,vs,rfl,s,r⟩:=ra.wj;refine .inr<|.inl ⟨p,vs,rfl,s.sq,λq hq=>?_⟩;let⟨x2,S2,r2⟩:=S.L hq<|Xn r lo hi;exact h _ _ _ x2 S2 r2|str z=>
  simp only[Fo,Fp,Bw,zm]at h;split at h
  .rename_i hz;exact .inr<|.inr ⟨z,ra.str_inv,hz,au.ok h S Rep.str⟩
  .exact h.elim
 | ref n=>
  simp only[Fo,Fp,Bw,zm]at h;cases hn:M[n]? with
  |none=>simp only[hn]at h;cases h|some o=>
   cases o with
   |qq _=>simp only[hn]at h;cases h|dY _=>simp only[hn]at h;cases h|ins _ _=>simp only[hn]at h;cases h|L ds=>simp only[hn]at h;let⟨p,hp,rfl⟩:=ra.fG;let⟨vs,e,r⟩:=S.obj n _ p hn hp;refine .inr<|.inl ⟨p,vs,rfl,bV.of e,λq hq=>?_⟩;let⟨x2,S2,r2⟩:=S.L hq<|Xn r lo hi;exact h _ _ _ x2 S2 r2
 |_=>cases h
def Ce{xs:List V}(r:aB K H ι [d] xs):∃x,xs=[x]/\Rep K H ι d x:=by let⟨v,ws,rfl,r1,r2⟩:=r.cons_inv;have:=r2.nil_inv;subst this;exact⟨v,rfl,r1⟩
def fU:dB X (.builtin "len") (rB X.K aV):=dB.imp Zs3 λxs H Q ak=>by
 let⟨ι,M,ds,S,rd,h⟩:=ak;cases ds with
 |nil=>cases h|cons d ds=>
  cases ds with
  |cons _ _=>cases d<;>cases h|nil=>
   let⟨x,rfl,r⟩:=Ce rd;cases d with
   |U z=>let⟨p,vs,rfl,s,r'⟩:=r.kj;exact⟨_,B vs,rfl,.inr ⟨vs,s,rfl⟩,by rw[r'.length];exact au.ok h S Rep.int⟩|bB z=>let⟨p,vs,rfl,s,r'⟩:=r.wj;exact⟨_,B vs,rfl,.inl ⟨vs,s.sq,rfl⟩,by rw[r'.length];exact au.ok h S Rep.int⟩|str z=>
    simp only[Bx,BJ,BK,t_]at h;split at h
    .rename_i hz;have:=r.str_inv;subst this;refine⟨_,z.length,rfl,⟨?_,?_⟩,au.ok h S Rep.int⟩
     .show z.toArray.size<=bI;rw[Yt];exact Yi hz mC
     .show z.length=z.toArray.size;rw[Yt]
    .exact h.elim
   | ref n=>
    cases hn:M[n]? with
    |none=>rw[t_,hn]at h;cases h|some o=>
     cases o with
     |qq _=>rw[t_,hn]at h;cases h|dY _=>rw[t_,hn]at h;cases h|ins _ _=>rw[t_,hn]at h;cases h|L z=>simp only[Bx,BJ,BK,t_,hn]at h;let⟨p,hp,rfl⟩:=r.fG;let⟨vs,e,r'⟩:=S.obj n _ p hn hp;exact⟨_,B vs,rfl,.inl ⟨vs,bV.of e,rfl⟩,by rw[r'.length];exact au.ok h S Rep.int⟩
   |_=>cases h
def rT:dB X (.type "tuple") (rB X.K iy):=dB.imp Zk6 λxs H Q ak=>by
 let⟨ι,M,ds,S,rd,h⟩:=ak;cases ds with
 |nil=>cases h|cons d ds=>
  cases ds with
  |cons _ _=>cases d<;>cases h|nil=>
   let⟨x,rfl,r⟩:=Ce rd;cases d with
   |U z=>let⟨p,vs,rfl,s,r'⟩:=r.kj;exact⟨p,vs,rfl,.inr ⟨s,au.ok h S<|Rep.U s r'⟩⟩|bB z=>let⟨p,vs,rfl,s,r'⟩:=r.wj;refine⟨p,vs,rfl,.inl ⟨s.sq,λq hq=>?_⟩⟩;let⟨x2,S2,r2⟩:=S.wz hq r';exact h _ _ _ x2 S2 r2|ref n=>
    cases hn:M[n]? with
    |none=>rw[Fq,hn]at h;cases h|some o=>
     cases o with
     |qq _=>rw[Fq,hn]at h;cases h|dY _=>rw[Fq,hn]at h;cases h|ins _ _=>rw[Fq,hn]at h;cases h|L z=>simp only[Ta,Tb,Fq,hn]at h;let⟨p,hp,rfl⟩:=r.fG;let⟨vs,e,r'⟩:=S.obj n _ p hn hp;refine⟨p,vs,rfl,.inl ⟨bV.of e,λq hq=>?_⟩⟩;let⟨x2,S2,r2⟩:=S.wz hq r';exact h _ _ _ x2 S2 r2
   |_=>cases h
def ZxF:dB X (.type "list") (rB X.K wZ):=dB.imp ZmF λxs H Q ak=>by
 let⟨ι,M,ds,S,rd,h⟩:=ak;cases ds with
 |nil=>cases h|cons d ds=>
  cases ds with
  |cons _ _=>cases d<;>cases h|nil=>
   let⟨x,rfl,r⟩:=Ce rd;cases d with
   |U z=>let⟨p,vs,rfl,s,r'⟩:=r.kj;refine⟨p,vs,rfl,.inr s,λq hq=>?_⟩;let⟨x2,S2,r2⟩:=S.L hq r';exact h _ _ _ x2 S2 r2|bB z=>let⟨p,vs,rfl,s,r'⟩:=r.wj;refine⟨p,vs,rfl,.inl s.sq,λq hq=>?_⟩;let⟨x2,S2,r2⟩:=S.L hq r';exact h _ _ _ x2 S2 r2|ref n=>
    cases hn:M[n]? with
    |none=>rw[Jm,hn]at h;cases h|some o=>
     cases o with
     |qq _=>rw[Jm,hn]at h;cases h|dY _=>rw[Jm,hn]at h;cases h|ins _ _=>rw[Jm,hn]at h;cases h|L z=>simp only[ZrH,ZrE,Jm,hn]at h;let⟨p,hp,rfl⟩:=r.fG;let⟨vs,e,r'⟩:=S.obj n _ p hn hp;refine⟨p,vs,rfl,.inl<|bV.of e,λq hq=>?_⟩;let⟨x2,S2,r2⟩:=S.L hq r';exact h _ _ _ x2 S2 r2
   |_=>cases h
end
def fL:jY "len" =O (.builtin "len"):=by decide +kernel
def JS:jY "all" =O (.builtin "all"):=by decide +kernel
def XQ:jY "isinstance" =O (.builtin "isinstance"):=by decide +kernel
def ZxD:jY "int" =O (.type "int"):=by decide +kernel
def Zxe:jY "str" =O (.type "str"):=by decide +kernel
def Zuz:jY "list" =O (.type "list"):=by decide +kernel
def rW:jY "tuple" =O (.type "tuple"):=by decide +kernel
section
variable {X:Cx} {a:Expr} {pos p p2:a_} {f:E3}
def xK:vp->String
 | .int=>"int" | .bool=>"bool" | .str=>"str" | .list=>"list" | .tuple=>"tuple"
def Cg(K:Yb)(t:String)(T:vp)(ht:t∈["NoneType","bool","int","str","list","tuple","dict"]):
  Tw K (.type t) (.type<|xK T)=O (t==xK T|| (t== "bool" &&xK T== "int")):=by
 simp only[Yo,rm,or_false]at ht;rcases ht with rfl|rfl|rfl|rfl|rfl|rfl|rfl <;>cases T<;>kernel_rfl
def Zz1(T:vp):jY (xK T)=O (.type<|xK T):=by cases T<;>decide +kernel
def ZyP(T:vp)(o:Option MO):Option Bool:=match o with
 |some (.L _)=>O (T== .list)|some (.qq _)=>O false|some (.dY _)=>Yj|some (.ins _ _)=>Yj
 |none=>Yj
def Zuh{T:vp}{x:V}{b:Bool}(I:Inv X b4 σ H s)(S:aF X.K H ι M)(r:Rep X.K H ι d x)(ru:RelV x u)(e:vz T d M=O b)(h:∀tk,Q (.bool b) {s with toks:=tk}):aq (aA X.prog X.w) A (call (.builtin "isinstance") [u,.type<|xK T]) Q E s:=by
 cases d with
 |Z=>rw[r.kh]at ru;exact Fi I ru .Z ((Cg X.K "NoneType" T aaA).trans<|yW (by cases T<;>rfl) e) h|bl c=>rw[r.iW]at ru;exact Fi I ru (.bl c) ((Cg X.K "bool" T aaA).trans<|yW (by cases T<;>rfl) e) h|int i=>rw[r.int_inv]at ru;exact Fi I ru (.int i) ((Cg X.K "int" T aaA).trans<|yW (by cases T<;>rfl) e) h|str z=>rw[r.str_inv]at ru;exact Fi I ru (.str _) ((Cg X.K "str" T aaA).trans<|yW (by cases T<;>rfl) e) h
 |U ds=>let⟨p,vs,b6,_,eu,⟨o,h1,h2,_⟩,_⟩:=Gb I r ru;rw[eu];exact qt IB I.cJ ⟨o,h1,h2⟩ ((Cg X.K "tuple" T aaA).trans<|yW (by cases T<;>rfl) e) nofun h|bB ds=>exact j4 e|ref n=>
  have e:ZyP T M[n]?=O b:=e;let⟨a,ha,ex⟩:=r.fG;rw[ex]at ru;cases hn:M[n]? with
  |none=>rw[hn]at e;exact j4 e|some o=>
   rw[hn]at e;cases o with
   |L z=>let⟨vs,ev,_⟩:=S.obj n _ a hn ha;exact Fi I ru (.L ev) ((Cg X.K "list" T aaA).trans<|yW (by cases T<;>rfl) e) h|qq z=>let⟨vs,ev,_⟩:=S.obj n _ a hn ha;exact Fi I ru (.dK ev) ((Cg X.K "dict" T aaA).trans<|yW (by cases T<;>rfl) e) h|dY z=>exact j4 e|ins _ _=>exact j4 e
def XR(T:vp){x:aj}(hm:X.mg "isinstance" =Yj)(B7:X.mg x=Yj)(h:C3 X a f)(hx:x=(rC<|xK T):=by rfl)(hg:Gl X "isinstance":=by rfl)(xy:Gl X x:=by rfl)(hn:x≠ "__name__":=by decide)(hd:(x==("__debug__":aj))=false:=by decide)(hs:Yv (a::[.Name x p2]) X.env=(false,aO a X.env)::Yv [.Name x p2] X.env:=by rfl)(zC:Yv (.Name x p2::[]) X.env=(false,aO (.Name x p2) X.env)::Yv [] X.env:=by rfl)(qv:(b8 pos<|Yv [.Name x p2] X.env).any (·.1)=false:=by rfl):C3 X (.Call (.Name "isinstance" p) [a,.Name x p2] [] pos) (e1 (w5 T) f):=by
 subst hx;have hc:dB X (.builtin "isinstance") (λxs H Q=>∃ι M d x,xs=[x,.ty<|xK T]/\aF X.K H ι M/\Rep X.K H ι d x/\au X.K H ι Q (w5 T d M)):=by
  intro b4 s σ H xs us Q I r q;let⟨ι,M,d,x,rfl,S,rd,q⟩:=q;let⟨u,w',rfl,ru,lV⟩:=vals2 r;cases lV;unfold w5 at q;cases e:vz T d M with
  |none=>rw[e]at q;exact q.elim|some b=>rw[e]at q;exact Zuh I S rd ru e λtk=>⟨.bl b,H,I.tok _,rfl,au.ok q S Rep.bl⟩
 refine(Jf hc hg hm XQ (qG h (qG (Pl xy B7 (Zz1 T) (v:=.ty<|xK T) J hn hd) zc zC) hs) aaA aaA hs qv).imp λσ H Q ak=>?_;let⟨ι,M,env,S,E,h⟩:=ak;let⟨d,M1,e1,h⟩:=au.bind h;refine⟨ι,M,env,S,E,?_⟩;rw[e1];intro v H1 ι1 x1 S1 r1;exact⟨ι1,M1,d,v,rfl,S1,r1,h.up x1⟩
theorem WG{p:D->Bool}:∀{l:c9} {e:Nat->Bool},(∀(j:Nat) d,l[j]?=O d->e j=p d)->(jO<|B l).all e=l.all p
 |[],_,_=>rfl|d::l,e,h=>by rw[Yp,KI,lQ,List.all_map,h 0 d J,lQ];congr 1;exact WG λj d' hj=>h (j+1) d' (by simpa using hj)
def JT(hc:X.calm=true):dB X (.builtin "all") (rB X.K uc):=by
 intro b4 s σ H xs us Q I rs h;let⟨ι,M,ds,S,rd,h⟩:=h;cases ds with
 |nil=>cases h|cons d ds=>
  cases ds with
  |cons _ _=>cases d<;>cases h|nil=>
   let⟨x,rfl,r⟩:=Ce rd;let⟨u,rfl,ru⟩:=vals1 rs;cases d with
   | ref n=>
    cases hn:M[n]? with
    |none=>rw[Fv,hn]at h;cases h|some o=>
     cases o with
     |qq _=>rw[Fv,hn]at h;cases h|dY _=>rw[Fv,hn]at h;cases h|ins _ _=>rw[Fv,hn]at h;cases h|L z=>
      simp only[Fv,hn]at h;cases q:allB z with
      |none=>rw[q]at h;cases h|some b=>
       rw[q]at h;let⟨a,ha,rfl⟩:=r.fG;cases ru;let⟨vs,ev,rv⟩:=S.obj n _ a hn ha;let⟨b6,rr,pl,_⟩:=I.list<|bV.of ev;have hz:z.all Jo=true/\z.all Ft=b:=by
        unfold allB at q;split at q
        .rename_i hz;exact⟨hz,fM q⟩
        .cases q
       have hlen:b6.toArray.size=z.length:=by rw[Yt,<-rr.length,rv.length]
       have hhd:X.A.in1.handled=Yj:=I.ok.hd hc;refine call_all_walk (yt pl.isList ⟨c6 s,_,_,_,_,_,(λj=>match z[j]? with|some d=>Ft d|none=>true),rfl,O5 hhd (c6 s) a (d8<|I.i6.lt ev) b6.toArray,⟨⟨_,Y6 _ J,rfl,rfl⟩,pl.isList.at λo e=>Yn _ e⟩,?_,?_⟩)
       .intro j v s' Q' E' hv hq;have B0:b6[j]?=O v:=by simpa using hv
        have hj:j<z.length:=by have:=(Yg.mp B0).1;rwa[<-Yt,hlen]at this
        have e1:z[j]?=O z[j]:=by simp[hj]
        have hb:=jh.mp hz.1 _<|tO hj;let⟨w,g1,g2⟩:=rv.get e1;let⟨u',k1,k2⟩:=rr.get g1;rw[B0]at k1;cases k1;have ub:Q' (Ft z[j]) s':=by have:=hq;simp only[e1]at this;exact this
        generalize z[j]=dj at hb g2 ub;cases dj with
        |bl c=>have:=g2.iW;subst this;cases k2;exact tu ub|_=>simp[Jo]at hb
       .intro h' tk kk;rw[hlen,WG (p:=Ft) (λj d hd=>by rw[hd]),hz.2];exact⟨.bl b,H,I.kept (λc o e=>kk c o (by simp;exact d8<|Y3 e)<|Yn _ e),rfl,au.ok h S Rep.bl⟩
   |_=>cases h
end
def WH(outer:List (aj×NameKind))(N:List aj)(scope:Scope)(N':List aj)(own:Nat):Bool:=
 (scope.names.all λy=>decide (y.2≠ .cell)&&(decide (y.2≠ .free)|| decide (outer.lookup y.1=O .cell)|| decide (outer.lookup y.1=O .free))&&(decide (y.2≠ .local)|| decide (scope.names.lookup y.1=O .local)))&&
  decide (B N'=B N+own)&&Xo N N' scope
def pY{scope:Scope}{N':List aj}{own:Nat}(hk:scope.kind= .function)(h:WH X.env.scope.names X.N scope N' own=true):zL X scope N' own:=by
 simp only[WH,gO,decide_eq_true_eq,jh,yS]at h;let⟨⟨h1,h2⟩,h3⟩:=h;refine⟨hk,λy hy=>(h1 y hy).1.1,λy hy e=>?_,λy hy e=>?_,h2,h3⟩
 .rcases(h1 y hy).1.2 with(q|q)|q
  exact k9 e q;exact .inl q;exact .inr q
 .rcases(h1 y hy).2 with q|q
  .exact k9 e q
  .exact q
def Ztc{h:aH}{mg:aj->Option Yh}(KX:K.In h)(G:h.Ns Y7 mg){x:aj}{f:Yy}{oc:Yh}{od an:Option Yy}{sM:Array (Option Yh)}{dV kV doc pm j0 ct:Yh}(a:PySem.W.nsIn K Y7 x=O (O<|.ref f))(l:K.lookup f=O ⟨oc,od,.func<|q8 x x (oA st) (jz st) (bJ st) dV kV doc pm an j0 ct,sM⟩)(c:Ea K j0 x=true)(k:sZ K (.ref f)=true)(b:Binds K (q8 x x (oA st) (jz st) (bJ st) dV kV doc pm an j0 ct) ps []):gm K mg x st ps:=⟨f,_,Sr l c k,Yoi KX G a,b⟩
def Zzm{l:PySem.W.OpenLaw}{k:Nat}{q:Y9}{loose:List aj}{XP:(aj->Option Yh)->aH->Prop}{YP:aQ->aH->Prop}{d:DefRec}{K:Params->Yb}(hn:l.most=O 63)(A5:d.params.defaults=[])(hr:dM k yC)(hY:∀(w:aQ) (h:aH),YP w h->(K w.params).In h)(G:∀(w:aQ) (mg:aj->Option Yh) (fa:Yy) (h:aH),(K w.params).In h->h.Ns Y7 mg->mg d.name=O (.ref fa) ->
   ∃fd:lJ,(∀(s:Yl) (u:Yh),Ek s fd ⟨[u],[]⟩ [("script",u)])/\∀base:aH,(K w.params).In base->base.Ns Y7 mg->h_ l.prog w (K w.params) mg base m_ k fa fd ["script"] (vI (K w.params) 1 F))(hF:∀ns:List Int,B ns<=63->∃M',F [.bB<|ns.map D.int] []= .ok (.bl true) M'):
  II q loose XP YP l.row.toRowW d [] (λf vs=>Uj f vs):=
 L2.Zp9 (n:=63) (k:=k) (x:="script") (CX:=λ_=>m_) (sp:=λw=>vI (K w.params) 1 F) hn aaA A5 hr hY G (λw H a ns hl hO hS=>by
  let⟨M',e⟩:=hF ns hl;refine⟨[],[],[.bB<|ns.map D.int],⟨rfl,Lv,λn o a h=>by simp at h⟩,aB.cons ?_ aB.nil,rfl,?_⟩
  .refine⟨a,ns.map V.int,rfl,?_,aB.ints ns⟩;rcases hS with(h|⟨o,h⟩)|h
   .rcases hO a with z|⟨ob,xs,z⟩
    .rw[h]at z;cases z
    .rw[h]at z;cases z
   .exact .inl ⟨o,h⟩
   .exact .inr h
  .rw[e]
   exactλv H' ι' _ _ r=>r.iW) λ_ _ _ _ _ z=>z
def XS{a b:jA}(h:dk a=dk b):a=b:=by
 cases a with
 |inl i=>cases b with
  |inl j=>simp only[dk,Sum.inl.injEq]at h;rw[h]|inr y=>simp[dk]at h
 | inr x=>cases b with
  |inl j=>simp[dk]at h|inr y=>simp only[dk,Sum.inr.injEq,Str.mk.injEq]at h;have:=congrArg Ez h;simp at this;rw[this]
variable{d5:List (jA×D)}{ws:List (Key×V)}
section
variable {K:Yb} {H H':Hp} {ι ι':List Yy} {M:b3} {p:Yy}
def eO.nil:eO K H ι [] []:=⟨rfl,aB.nil⟩
def eO.cons{k:jA}{d:D}{v:V}{d5:List (jA×D)}{ws:List (Key×V)}(h:Rep K H ι d v)(r:eO K H ι d5 ws):eO K H ι ((k,d)::d5) ((dk k,v)::ws):=⟨by simp[r.1],aB.cons h r.2⟩
def eO.cons_inv{q:jA×D}(r:eO K H ι (q::d5) ws):∃v AS,ws=(dk q.1,v)::AS/\Rep K H ι q.2 v/\eO K H ι d5 AS:=by
 let⟨h1,h2⟩:=r;cases ws with
 |nil=>simp at h1|cons w ws=>simp only[Yw,L9]at h1;let⟨v,us,e,r1,r2⟩:=aB.cons_inv h2;simp only[Yw,L9]at e;exact⟨w.2,ws,by rw[<-h1.1],e.1▸r1,h1.2,e.2▸r2⟩
def eO.nil_inv(r:eO K H ι [] ws):ws=[]:=by simpa using r.1
def eO.mono(r:eO K H ι d5 ws)(e:Ext K H ι H' ι'):eO K H' ι' d5 ws:=⟨r.1,r.2.mono e⟩
def eO.length(r:eO K H ι d5 ws):B ws=B d5:=by have:=congrArg yN r.1;simpa using this
def eO.val(k:jA):∀{ws:List (Key×V)},eO K H ι d5 ws->match Jl d5 k with|some d=>∃v,oE ws (dk k)=O v/\Rep K H ι d v|none=>oE ws (dk k)=Yj:=by
 induction d5 with
 |nil=>intro ws r;rw[r.nil_inv];exact Zsl|cons q d5 ih=>
  intro ws r;let⟨v,AS,rfl,r1,r2⟩:=r.cons_inv;let⟨k',d⟩:=q;unfold Jl;by_cases e:k'=k
  .rw[c_ e];exact⟨v,PL (by rw[e]),r1⟩
  .rw[d4 e,PN λz=>e<|XS z];exact ih r2
def eO.append{k1 k2:List (jA×D)}{w1 w2:List (Key×V)}(a:eO K H ι k1 w1)(b:eO K H ι k2 w2):eO K H ι (k1++k2) (w1++w2):=⟨by simp[a.1,b.1],by rw[fX,fX];exact a.2.append b.2⟩
def eO.any(k:jA):∀{ws:List (Key×V)},eO K H ι d5 ws->(ws.any λkv=>decide<|kv.1=dk k)=(d5.any λq=>decide<|q.1=k):=by
 induction d5 with
 |nil=>intro ws r;rw[r.nil_inv];rfl|cons q d5 ih=>
  intro ws r;let⟨v,AS,rfl,r1,r2⟩:=r.cons_inv;rw[nY,nY,ih r2];congr 1;by_cases e:q.1=k
  .simp[e]
  .simp[e];exactλz=>e<|XS z
def eO.put{k:jA}(r:eO K H ι d5 ws)(rd:Rep K H ι d v):eO K H ι (putD k d d5) (putK ws (dk k) v):=by
 unfold putD putK;rw[r.any k];by_cases c:(d5.any λq=>decide<|q.1=k)=true
 .rw[c_ c,c_ c];clear c
  induction d5 generalizing ws with
  |nil=>rw[r.nil_inv];exact eO.nil|cons q d5 ih=>
   let⟨u,AS,rfl,r1,r2⟩:=r.cons_inv;rw[Yw,Yw];by_cases e:q.1=k
   .rw[c_ e,c_<|by rw[e]];exact eO.cons rd<|ih r2
   .rw[d4 e,d4 λz=>e<|XS z];exact eO.cons r1<|ih r2
 .rw[d4 c,d4 c];exact r.append<|eO.cons rd eO.nil
def aF.qq(S:aF K H ι M)(hp:H p=Yj)(r:eO K H ι d5 ws):Ext K H ι (upd H p<|.dK ws) (ι++[p])/\aF K (upd H p<|.dK ws) (ι++[p]) (M++[.qq d5])/\Rep K (upd H p<|.dK ws) (ι++[p]) (.ref<|B M) (.ref p):=by have e:Ext K H ι (upd H p<|.dK ws) (ι++[p]):=Loose.Hi<|.inl hp;exact⟨e,S.new hp ⟨ws,iw,r.mono e⟩,Rep.ref (by rw[<-S.len];simp)⟩
end
section
variable {X:Cx} {a b c e o:Expr} {es:List Expr} {pos p pos' apos f_:a_} {f g h:E3} {gl:d_}
def XX(K:Yb)(H:Hp)(ι:List Yy)(Q:List (V×V)->Hp->Prop)(r:R3 (List<|jA×D)):Prop:=match r with
 | .ok l M'=>∀ws H' ι',Ext K H ι H' ι'->aF K H' ι' M'->eO K H' ι' l ws->Q (ws.map λkv=>(kV kv.1,kv.2)) H'|_=>False
def XX.bind{Q:List (V×V)->Hp->Prop}{r:R3 α}{k:α->b3->R3 (List<|jA×D)}(h:XX K H ι Q (r.bind k)):∃a M,r= .ok a M/\XX K H ι Q (k a M):=by
 cases r with
 |ok a M=>exact⟨a,M,rfl,h⟩|exc x M=>cases h|bad=>cases h
def sr(hu:X.A.units+80<lK):X.A.units+1<lK:=by omega
def Zuv{op:D->D->D->b3->R3 D}{Q:VK}(h':au K H ι Q (e3 op f g h env M)):
  ∃a M1 b M2 c M3,f env M= .ok a M1/\g env M1= .ok b M2/\h env M2= .ok c M3/\au K H ι Q (op a b c M3):=by
 let⟨a,M1,e1,h'⟩:=au.bind h';let⟨b,M2,e2,h'⟩:=au.bind h';let⟨c,M3,e3,h'⟩:=au.bind h';exact⟨a,M1,b,M2,c,M3,e1,e2,e3,h'⟩
def WI{D':Ends}(E:bT K H ι env σ)(h':qM K H ι D' (bC f env M)):au K H ι (λ_ H'=>D'.nx σ H') (f env M):=by
 unfold bC at h';cases q:f env M with
 |ok d M1=>rw[q]at h';exactλv H1 ι1 x1 S1 r1=>h' σ H1 ι1 x1 S1 (E.mono x1)|exc x M1=>rw[q]at h';exact h'.elim|bad=>rw[q]at h';exact h'.elim
def X_{i:Expr}{sf:a_}(ho:C3 X o f)(hi:C3 X i g)(hv:C3 X e h)(ha:∀v,kW (.Subscript o i sf) X.env v=(do
   let ov ←wI [v] (aO o X.env)
   let iv ←wI [v,ov] (aO i X.env)
   Ej sf
   wI [v,ov,iv] (setItem ov iv v)
   release [v,ov,iv] []):=by intro _;rfl)(hs:T7 [.Subscript o i sf] e pos.line X.env=pure false:=by rfl)(hw:T8 [.Subscript o i sf] e X.env=pure Yj:=by rfl)(h1:(kJ [.Subscript o i sf] X.env).map (·.2)=[kW (.Subscript o i sf) X.env]:=by rfl):CS X (.Assign [.Subscript o i sf] e pos) (vA f g h):=(PH hv (Zwg ho hi set_list ha) hs hw h1).imp λD' σ H ak=>by
 let⟨ι,M,env,S,E,hh⟩:=ak;let⟨d,M1,b,M2,k,M3,e1,e2,e3,hh⟩:=Zuv<|WI E hh;refine⟨ι,M,env,S,E,?_⟩;rw[e1];intro v H1 ι1 x1 S1 r1;refine⟨ι1,M1,env,S1,E.mono x1,?_⟩;rw[e2];intro x H2 ι2 x2 S2 r2;refine⟨ι2,M2,env,S2,(E.mono x1).mono x2,?_⟩;rw[e3];intro y H3 ι3 x3 S3 r3;cases b with
 | ref n=>
  cases k with
  | int j=>
   simp only[Ts]at hh;cases hn:M3[n]? with
   |none=>simp only[hn]at hh;exact hh.elim|some ob=>
    cases ob with
    |qq _=>simp only[hn]at hh;exact hh.elim|dY _=>simp only[hn]at hh;exact hh.elim|ins _ _=>simp only[hn]at hh;exact hh.elim|L xs=>
     simp only[hn]at hh;cases hj:nj (B xs) j with
     |none=>simp only[hj]at hh;exact hh.elim|some q=>simp only[hj]at hh;let⟨ad,ha,rfl⟩:=(r2.mono x3).fG;let⟨ws,hw,kr⟩:=S3.obj n _ ad hn ha;let⟨x4,S4⟩:=S3.yo (.inr<|.inl ⟨_,hw⟩) ha<|kr.set q<|(r1.mono x2).mono x3;exact⟨ad,ws,j,q,rfl,r3.int_inv,hw,by rwa[kr.length],hh .Z _ _ (((x1.trans x2).trans x3).trans x4) S4 Rep.Z⟩
  |_=>exact hh.elim
 |_=>exact hh.elim
end
section
variable {X:Cx} {a b c e o:Expr} {es:List Expr} {pos p apos f_:a_} {f g h:E3} {gl:d_}
def Zzn:dB X (.type "int") (rB X.K Jp):=dB.imp ZqL λxs H Q ak=>by
 let⟨ι,M,ds,S,rd,h⟩:=ak;cases ds with
 |nil=>cases h|cons d ds=>
  cases ds with
  |cons _ _=>cases d<;>cases h|nil=>
   let⟨x,rfl,r⟩:=Ce rd;cases d with
   |int i=>exact .inl ⟨i,by rw[r.int_inv],au.ok h S Rep.int⟩|bl k=>exact .inr ⟨k,by rw[r.iW],au.ok h S Rep.int⟩|_=>cases h
theorem WJ{K:Yb}{H:Hp}{ι:List Yy}:∀{x:c9} {ns:List Int} {vs:List V} {us:List Yh},oG x=O ns->aB K H ι x vs->Vals vs us->IntsAre us ns
 |[],ns,vs,us,h,r,v=>by
  have e:=r.nil_inv;subst e;cases v;have:ns=[]:=by simpa[oG]using h.symm
  subst this;exact .nil
 | .int i::x,ns,vs,us,h,r,v=>by
  let⟨u,Ex,rfl,r1,r2⟩:=r.cons_inv;have e:=r1.int_inv;subst e;cases v with
  | @cons _ z _ us' rz YB=>
  let⟨t,rfl⟩:=rz;simp only[oG]at h;cases hx:oG x with
  |none=>rw[hx]at h;cases h|some ms=>
   rw[hx]at h;have:ns=i::ms:=by simpa using h.symm
   subst this;exact .cons i t<|WJ hx r2 YB
 | .Z::_,_,_,_,h,_,_=>by simp[oG]at h|.bl _::_,_,_,_,h,_,_=>by simp[oG]at h|.str _::_,_,_,_,h,_,_=>by simp[oG]at h|.U _::_,_,_,_,h,_,_=>by simp[oG]at h
 | .bB _::_,_,_,_,h,_,_=>by simp[oG]at h|.ref _::_,_,_,_,h,_,_=>by simp[oG]at h
end
def ZuO{ui:List Ydv}:pU X ui Tx:=λ_ _ _ _ _ _ ⟨_,_,_,_,_,h⟩=>h.elim
section
variable {X:Cx} {o e:Expr} {es:List Expr} {apos f_:a_} {f:E3} {gl:d_}
theorem aB.erase:∀{ds:c9} {vs:List V} (i:Nat),aB K H ι ds vs->aB K H ι (ds.eraseIdx i) (vs.eraseIdx i)
 |[],_,_,h=>by rw[h.nil_inv];exact aB.nil|d::ds,_,0,h=>by let⟨v,us,rfl,r,t⟩:=h.cons_inv;exact t|d::ds,_,i+1,h=>by let⟨v,us,rfl,r,t⟩:=h.cons_inv;exact aB.cons r<|t.erase i
def aB.dropLast(r:aB K H ι ds vs):aB K H ι ds.dropLast vs.dropLast:=by rw[Uq,Uq,r.length];exact r.take _
def Zy7:mZ X "list.pop" (rM X.K rJ):=mZ.imp (r:=λx xs H Q=>Si x xs H Q\/Sf x xs H Q) (λb4 s σ H x xs v us Q I rx rs q=>q.elim (ZrY b4 s σ H x xs v us Q I rx rs)<|Zw3 b4 s σ H x xs v us Q I rx rs) λx xs H Q ak=>by
 let⟨ι,M,a,ds,S,ra,rd,h⟩:=ak;cases a with
 | ref n=>
  cases ds with
  | nil=>
   simp only[To,WR]at h;cases hn:M[n]? with
   |none=>simp only[hn]at h;cases h|some ob=>
    cases ob with
    |qq _=>simp only[hn]at h;cases h|dY _=>simp only[hn]at h;cases h|ins _ _=>simp only[hn]at h;cases h|L z=>
     simp only[hn]at h;cases hx:z[z.length-1]? with
     |none=>simp only[hx]at h;cases h|some d=>simp only[hx]at h;let⟨p,hp,rfl⟩:=ra.fG;have:=rd.nil_inv;subst this;let⟨vs,e,rv⟩:=S.obj n _ p hn hp;let⟨y,hy,ry⟩:=rv.get hx;let⟨x2,S2⟩:=S.yo (.inr<|.inl ⟨_,e⟩) hp rv.dropLast;exact .inr ⟨p,vs,y,rfl,rfl,e,by rwa[rv.length],h _ _ _ x2 S2<|ry.mono x2⟩
  | cons d ds=>
   cases ds with
   |cons _ _=>cases d<;>cases h|nil=>
    cases d with
    | int i=>
     simp only[To,WR]at h;cases hn:M[n]? with
     |none=>simp only[hn]at h;cases h|some ob=>
      cases ob with
      |qq _=>simp only[hn]at h;cases h|dY _=>simp only[hn]at h;cases h|ins _ _=>simp only[hn]at h;cases h|L z=>
       simp only[hn]at h;by_cases hb:-1000000<=i/\i<=1000000
       .rw[c_ hb]at h;cases hk:nj z.length i with
        |none=>simp only[hk]at h;cases h|some k=>
         simp only[hk]at h;cases hx:z[k]? with
         |none=>simp only[hx]at h;cases h|some d=>simp only[hx]at h;let⟨p,hp,rfl⟩:=ra.fG;let⟨v,ws,rfl,r1,r2⟩:=rd.cons_inv;have:=r2.nil_inv;subst this;have:=r1.int_inv;subst this;let⟨vs,e,rv⟩:=S.obj n _ p hn hp;let⟨y,hy,ry⟩:=rv.get hx;let⟨x2,S2⟩:=S.yo (.inr<|.inl ⟨_,e⟩) hp<|rv.erase k;let⟨q1,q2,q3,q4⟩:=Wu (n:=z.length) (i:=i) (j:=k) hk;exact .inl ⟨p,vs,i,k,y,rfl,rfl,e,b5,b5,by rwa[rv.length],hy,h _ _ _ x2 S2<|ry.mono x2⟩
       .rw[d4 hb]at h;cases h
    |_=>cases h
 |_=>cases ds<;>cases h
end
section
variable {X:Cx} {a b c e o:Expr} {es:List Expr} {pos p apos f_:a_} {f g h:E3} {gl:d_}
def Zqo:dB X (.type "str") (λxs H Q=>(∃i,xs=[.int i]/\i.natAbs.log2<1920/\Q (.str<|yV i) H)\/∃x,xs=[.str x]/\Q (.str x) H):=by
 intro b4 s σ H xs us Q I r h;rcases h with h|⟨x,rfl,q⟩
 .exact Zms b4 s σ H xs us Q I r h
 .let⟨u,rfl,t,rfl⟩:=vals1 r;exact PySem.P.str_of_str ⟨.str x,H,I,⟨t,rfl⟩,q⟩
def AeH:dB X (.type "str") (rB X.K BR):=dB.imp Zqo λxs H Q ak=>by
 let⟨ι,M,ds,S,rd,h⟩:=ak;cases ds with
 |nil=>cases h|cons d ds=>
  cases ds with
  |cons _ _=>cases d<;>cases h|nil=>
   let⟨x,rfl,r⟩:=Ce rd;cases d with
   | int i=>
    simp only[TL,ZvF]at h;split at h
    .rename_i hz;refine .inl ⟨i,by rw[r.int_inv],hz,au.ok h S ?_⟩;have:=Rep.str (K:=X.K) (H:=H) (ι:=ι) (x:=i_ i);exact this
    .exact h.elim
   |str z=>exact .inr ⟨_,by rw[r.str_inv],au.ok h S Rep.str⟩|_=>cases h
theorem YC{K:Yb}{H:Hp}{ι:List Yy}:∀{x:c9} {ts:d6} {vs:List V} {us:List Yh},jB x=O ts->aB K H ι x vs->Vals vs us->∃l:List (aj×gq),us=nT l/\l.map (·.1)=ts.map λt=>(⟨kb t⟩:aj)
 |[],ns,vs,us,h,r,v=>by
  have e:=r.nil_inv;subst e;cases v;have:ns=[]:=by simpa[jB]using h.symm
  subst this;exact⟨[],rfl,rfl⟩
 | .str i::x,ns,vs,us,h,r,v=>by
  let⟨u,Ex,rfl,r1,r2⟩:=r.cons_inv;have e:=r1.str_inv;subst e;cases v with
  | @cons _ z _ us' rz YB=>
  let⟨t,rfl⟩:=rz;simp only[jB]at h;cases hx:jB x with
  |none=>rw[hx]at h;cases h|some ms=>
   rw[hx]at h;have:ns=i::ms:=by simpa using h.symm
   subst this;let⟨l,rfl,e⟩:=YC hx r2 YB;exact⟨(_,t)::l,rfl,by simp[e]⟩
 | .Z::_,_,_,_,h,_,_=>by simp[jB]at h|.bl _::_,_,_,_,h,_,_=>by simp[jB]at h|.int _::_,_,_,_,h,_,_=>by simp[jB]at h|.U _::_,_,_,_,h,_,_=>by simp[jB]at h
 | .bB _::_,_,_,_,h,_,_=>by simp[jB]at h|.ref _::_,_,_,_,h,_,_=>by simp[jB]at h
theorem YD(sep:b9):∀ts:d6,Str.join (⟨kb sep⟩:aj) (ts.map λt=>(⟨kb t⟩:aj))=⟨(glue sep ts).toArray⟩
 |[]=>rfl|[x]=>rfl|x::y::xs=>by have ih:=YD sep<|y::xs;simp only[Yw]at ih |-;simp only[Str.join,glue]at ih |-;rw[ih];show(⟨(x.toArray++sep.toArray)++(glue sep (y::xs)).toArray⟩:aj)=_;simp
def Zyj{sep:b9}{ts:d6}(h:j7 sep ts<=SZ):JoinOk (⟨kb sep⟩:aj) (ts.map λt=>(⟨kb t⟩:aj))=true:=by
 have gen:∀(ts:d6) (k:Nat),N6 (λx1 (x2:aj)=>x1+x2.length+(⟨kb sep⟩:aj).length) k (ts.map λt=>(⟨kb t⟩:aj))=k+j7 sep ts:=by
  intro ts
  induction ts with
  |nil=>intro k;simp[j7]|cons t ts ih=>intro k;simp only[Yw,rA,ih];simp[j7,n6];exact fY b5 b5
 unfold JoinOk ML;rw[List.foldl_toArray,gen];have:bI>=SZ:=mC;simp only[yO,Vd,decide_eq_false_iff_not];exactλz=>by omega
def Zxo:mZ X "str.join" (rM X.K nu):=by
 intro b4 s σ H x xs v us Q I rx rs h;let⟨ι,M,a,ds,S,ra,rd,h⟩:=h;cases a with
 | str sep=>
  cases ds with
  |nil=>cases h|cons d ds=>
   cases ds with
   |cons _ _=>cases d<;>cases h|nil=>
    cases d with
    | ref n=>
     simp only[W4]at h;cases hn:M[n]? with
     |none=>simp only[hn]at h;cases h|some ob=>
      cases ob with
      |qq _=>simp only[hn]at h;cases h|dY _=>simp only[hn]at h;cases h|ins _ _=>simp only[hn]at h;cases h|L z=>
       simp only[hn]at h;cases hs:jB z with
       |none=>simp only[hs]at h;cases h|some ts=>
        simp only[hs]at h;split at h
        .rename_i hz;have:=ra.str_inv;subst this;let⟨w',ws,rfl,r1,r2⟩:=rd.cons_inv;have:=r2.nil_inv;subst this;let⟨p,hp,rfl⟩:=r1.fG;let⟨t,rfl⟩:=rx;let⟨u,rfl,ru⟩:=vals1 rs;cases ru;let⟨vs,e,rv⟩:=S.obj n _ p hn hp;let⟨b6,rr,pl,zl⟩:=I.list<|bV.of e;let⟨l,rfl,el⟩:=YC hs rv rr;refine SC.join pl.isList el (Zyj hz) λt' k=>⟨.str _,H,I.tok _,⟨t',rfl⟩,?_⟩;rw[Txt.join,StrLaws.glued_eq_join,YD];exact au.ok h S Rep.str
        .exact h.elim
    |_=>cases h
 |_=>cases h
def Gd(ho:C3 X o f)(ha:CA X (e::es) gl)(p9:o9 o "join" X.env (aO o X.env)=aO o X.env:=by rfl)(rX:((b8 f_<|Yv (e::es) X.env).all (λx=>!x.1)&&(jN f_<|jL [] X.env).all (λx=>x.1.isSome)
   &&decide ((e::es).length+([]:List Keyword).length+(if([]:List Keyword).isEmpty then 0 else 1)<30))=true:=by rfl)(o3:(apos.endLine==f_.line)=true:=by rfl)(hs:Yv (e::es) X.env=(false,aO e X.env)::Yv es X.env:=by rfl)(p4:(b8 f_<|Yv es X.env).any (·.1)=false:=by rfl):
  C3 X (.Call (.Attribute o "join" apos) (e::es) [] f_) (aU fQ nu f gl):=
 (Jg Vu PySem.F.slot_str_join PySem.F.type_str_join Zxo ho ha p9 rX o3 hs p4).imp (JR XH)
end
section
variable {X:Cx} {a b c e o:Expr} {es:List Expr} {pos p apos f_:a_} {f g h:E3} {gl:d_}
def ZqV{prog:Y9}{w:aQ}{x:aj}{t:gq}{y:aj}{u:gq}(hy:(y.length==0)=false)(hz:x.length+2<=bI)(h:∀(l:List (aj×gq)) (k:Nat),l.map (·.1)=Txt.split x y->B l<=x.length+2->Q (.ref<|c6 s) {s with heap:=s.heap.push {cls:=.type "list",data:=.seq (nT l).toArray},toks:=k}):
  aq (aA prog w) A (call (.builtin "str.split") [.str x t,.str y u]) Q E s:=by
 have e1:=StrLaws.occ_length_le x y 0 x.length<|x.length+1;have e2:=length_partsBetween x (Il x y 0 x.length<|x.length+1) y.length;have hn:(MI x (Il x y 0 x.length<|x.length+1) y.length).length<=bI:=by omega
 cases h1:(decide (x.length<y.length)|| decide (MM x<MM y))with
 | true=>
  exact uV Vy (Eh s x t) Vx (Vw (.str x t)<|.str y u) (meets_str_split_cannot_occur x y t u h1)
   (h [(x,t)] s.toks (c_ h1).symm i9)
 | false=>
  cases hf:(Il x y 0 x.length<|x.length+1).isEmpty with
  | true=>
   exact uV Vy (Eh s x t) Vx (Vw (.str x t)<|.str y u) (meets_str_split_not_found x y t u h1 hy hf)
    (h [(x,t)] s.toks ((d4<|ne_true_of_eq_false h1).trans<|c_ hf).symm i9)
  |false=>refine uV Vy (Eh s x t) Vx (Vw (.str x t)<|.str y u) (meets_str_split_sep x y t u h1 hy hf b5 hn) ?_;rw[strsFrom_eq];refine h (numbered s.toks _) _ ((numbered_texts s.toks _).trans ((d4<|ne_true_of_eq_false h1).trans<|d4<|ne_true_of_eq_false hf).symm) ?_;have e3:=congrArg yN<|numbered_texts s.toks<|MI x (Il x y 0 x.length<|x.length+1) y.length;rw[Ym]at e3;omega
def Zk4:dB X (.type "int") (λxs H Q=>∃x n,xs=[.str x]/\intText? x=O n/\x.length<=640/\Q (.int n) H):=by intro b4 s σ H xs us Q I r h;let⟨x,n,rfl,hn,hz,q⟩:=h;let⟨u,rfl,t,rfl⟩:=vals1 r;exact PySem.W.KIN.call_text hn hz ⟨.int n,H,I.tok _,⟨_,rfl⟩,q⟩
def Zxu:dB X (.type "int") (rB X.K vG):=dB.imp (dB.or Zzn Zk4) λxs H Q ak=>by
 let⟨ι,M,ds,S,rd,h⟩:=ak
 match ds,rd,h with
 | [.str x],rd,h=>
  let⟨v,rfl,r⟩:=Ce rd;simp only[ZsF,Zru]at h;cases hn:MT ⟨kb x⟩with
  |none=>rw[hn]at h;cases h|some n=>
   rw[hn]at h;dsimp only at h;split at h
   .rename_i hz;exact .inr ⟨_,n,by rw[r.str_inv],hn,by simpa[n6]using hz,au.ok h S Rep.int⟩
   .exact h.elim
 |[],rd,h=>cases h|[.int i],rd,h=>exact .inl ⟨ι,M,_,S,rd,h⟩|[.bl i],rd,h=>exact .inl ⟨ι,M,_,S,rd,h⟩|[.Z],rd,h=>cases h
 |[.U _],rd,h=>cases h|[.bB _],rd,h=>cases h|[.ref _],rd,h=>cases h|.str _::_::_,rd,h=>cases h
 | .int _::_::_,rd,h=>cases h|.bl _::_::_,rd,h=>cases h|.Z::_::_,rd,h=>cases h|.U _::_::_,rd,h=>cases h
 | .bB _::_::_,rd,h=>cases h|.ref _::_::_,rd,h=>cases h
theorem YF{K:Yb}{H:Hp}{ι:List Yy}:∀(l:List (aj×gq)),Vals (l.map λp=>V.str p.1) (nT l)/\aB K H ι ((l.map λp=>p.1.cps.toList).map D.str) (l.map λp=>V.str p.1)
 |[]=>⟨.nil,aB.nil⟩|p::l=>⟨.cons ⟨p.2,rfl⟩ (YF (K:=K) (H:=H) (ι:=ι) l).1,aB.cons (Rep.str (x:=p.1.cps.toList)) (YF l).2⟩
def m_split:mZ X "str.split" (rM X.K xq):=by
 intro b4 s σ H x xs v us Q I rx rs h;let⟨ι,M,a,ds,S,ra,rd,h⟩:=h;cases a with
 | str z=>
  cases ds with
  |nil=>cases h|cons d ds=>
   cases ds with
   |cons _ _=>cases d<;>cases h|nil=>
    cases d with
    | str y=>
     simp only[TM]at h;split at h
     .rename_i hz;have:=ra.str_inv;subst this;let⟨w',ws,rfl,r1,r2⟩:=rd.cons_inv;have:=r2.nil_inv;subst this;have:=r1.str_inv;subst this;let⟨t,rfl⟩:=rx;let⟨u,rfl,ru⟩:=vals1 rs;let⟨t',rfl⟩:=ru;have zl:=mC;refine ZqV ?_ ?_ λl k hl hn=>?_
      .have:=hz.1;simp[n6];intro e;subst e;simp at this
      .simp only[n6,Yt];exact Yi hz.2 zl
      .have hq:=I.fresh;let⟨v1,r'⟩:=YF (K:=X.K) (H:=H) (ι:=ι) l;have e1:(l.map λp=>p.1.cps.toList)=pO z y:=by
        rw[pO,<-hl,pC];rfl
       rw[e1]at r';let⟨x2,S2,r2⟩:=S.L hq r';refine⟨.ref<|c6 s,_,I.laid (λb o' e=>Yn _ e) (Yu _) (show d9 X.prog X.w _ _ _ (.L<|l.map λp=>V.str p.1)from⟨?_,nT l,_,v1,Y6 _ J⟩),rfl,h _ _ _ x2 S2 r2⟩;simp only[Ym,n6,Yt]at hn |-;omega
     .exact h.elim
    |_=>cases h
 |_=>cases h
def YG(ho:C3 X o f)(ha:CA X (e::es) gl)(p9:o9 o "split" X.env (aO o X.env)=aO o X.env:=by rfl)(rX:((b8 f_<|Yv (e::es) X.env).all (λx=>!x.1)&&(jN f_<|jL [] X.env).all (λx=>x.1.isSome)
   &&decide ((e::es).length+([]:List Keyword).length+(if([]:List Keyword).isEmpty then 0 else 1)<30))=true:=by rfl)(o3:(apos.endLine==f_.line)=true:=by rfl)(hs:Yv (e::es) X.env=(false,aO e X.env)::Yv es X.env:=by rfl)(p4:(b8 f_<|Yv es X.env).any (·.1)=false:=by rfl):
  C3 X (.Call (.Attribute o "split" apos) (e::es) [] f_) (aU fQ xq f gl):=
 (Jg Vu PySem.F.slot_str_split PySem.F.type_str_split m_split ho ha p9 rX o3 hs p4).imp (JR XH)
end
def Qz(K:Yb)(H:Hp)(ι:List Yy)(it:Jw)(i4:It):Prop:=∀(i:Nat) H2 ι2 M2,Ext K H ι H2 ι2->aF K H2 ι2 M2->lA it.lk M2=true ->
 (∀d,it.items[i]?=O d->i4.go i H2/\∀x H3,i4.Pn i H2 x H3->Ext K H2 ι2 H3 ι2/\aF K H3 ι2 M2/\Rep K H3 ι2 d x)/\(i=B it.items->i4.stop i H2)
def Ge(K:Yb)(H:Hp)(ι:List Yy)(R:It->Hp->Prop)(r:R3 Jw):Prop:=match r with
 | .ok it M'=>∀i4 H' ι',Ext K H ι H' ι'->aF K H' ι' M'->Qz K H' ι' it i4->R i4 H'|_=>False
def tIL(K:Yb)(g:BV):TI:=λσ H R=>∃ι M env,aF K H ι M/\bT K H ι env σ/\Ge K H ι R (g env M)
def B8(X:Cx)(tg e:Expr)(g:BV):Prop:=PI X tg e<|tIL X.K g
def Ge.bind{Q:It->Hp->Prop}{r:R3 α}{k:α->b3->R3 Jw}(h:Ge K H ι Q (r.bind k)):∃a M,r= .ok a M/\Ge K H ι Q (k a M):=by
 cases r with
 |ok a M=>exact⟨a,M,rfl,h⟩|exc x M=>cases h|bad=>cases h
def _root_.L2.Inv.Mg{h':aH}{t':Nat}(I:Inv X b4 σ H s)(k:∀b o,b∉fp->s.heap.get? b=O o->h'.get? b=O o)(hf:∀b∈fp,jy X b4 H b):
  Inv X b4 σ H {s with heap:=h',toks:=t'}:=by
 have IW:∀b u,H b=O u->b∉fp:=λb u e z=>by rw[(hf b z).1]at e;cases e
 refine I.step (g':=s.gens) (d':=s.drawn) (ch:=fp) (λb hb=>⟨(hf b hb).2.2.2.1,(hf b hb).2.1,(hf b hb).2.2.2.2.1,(hf b hb).2.2.2.2.2⟩) (λb o _ _ hc e _=>k b o hc e) (λb o _ _ hc e _=>⟨o.slots,k b o hc e⟩) (λ_ _ _ _ n=>n)
  (λb o hc e=>⟨o,k b o hc e⟩) (λ_ _ e=>e) (λ_ _ _ e=>e) (λb ps e=>⟨#[],by rw[e];simp⟩) (λm hm=>?_) (λb u e=>?_) I.bare
 .let⟨o,es,ep,ho,r⟩:=hm;exact⟨o,es,ep,k _ o (λz=>(hf _ z).2.1 J) ho,r⟩
 .refine(I.i6 b u e).rf (λc v hc q=>k c v ?_ q) (λ_ q=>q) λ_ _ q=>q;rcases hc with z|z
  .rw[z];exact IW b u e
  .exact IW c _ z
def B9(S:Hp->List V->Prop):It:=⟨λi H=>∃xs x,S H xs/\xs[i]?=O x,λi H x H'=>∃T y,x= .ref T/\H T=Yj/\H'=upd H T (.U [.int i,y])/\∀xs,S H xs->xs[i]?=O y,λi H=>∃xs,S H xs/\xs.length<=i⟩
def Zip{h' u4:aH}{e:Yy}{x:V}{tk tk':Nat}(I:Inv X b4 σ H s)(hf:∀b∈[e,it],jy X b4 H b)(he:e<c6 s)(hi:it<c6 s)(ru:RelV x u)(hT:h'.get? (c6 s)=O {cls:=.type "tuple",data:=.seq #[.int i tk,u]})(hk:∀b o,b≠e->b≠it->s.heap.get? b=O o->h'.get? b=O o)(hs:Eu e h' u4):
  Inv X b4 σ (upd H (c6 s)<|.U [.int i,x]) {s with heap:=u4,toks:=tk'}/\∀b∈[e,it],upd H (c6 s) (.U [.int i,x]) b=Yj:=by
 have hn:∀b∈[e,it],upd H (c6 s) (.U [.int i,x]) b=Yj:=λb hb=>by
  have:b≠s.heap.objs.size:=by
   simp only[Yo,rm,or_false]at hb;rcases hb with rfl|rfl
   .exact d8 he
   .exact d8 hi
  rw[bH this];exact(hf b hb).1
 refine⟨?_,hn⟩;have I1:Inv X b4 σ (upd H (c6 s)<|.U [.int i,x]) {s with heap:=s.heap.push {cls:=.type "tuple",data:=.seq ([.int i tk,u]:List Yh).toArray},toks:=s.toks}:=I.laid (t':=s.toks) (λb o e=>Yn _ e) (Yu _) (show d9 X.prog X.w _ _ _ (.U [.int i,x])from⟨by rw[uU];show 2<=_;decide,[.int i tk,u],.cons ⟨tk,rfl⟩<|.cons ru .nil,vg.new _ _⟩);have I3:=I1.Mg (t':=tk') (h':=u4) (fp:=[e,it]) (λb o hb q=>by
  have w8:b≠e:=λz=>hb (by simp[z]);have WO:b≠it:=λz=>hb (by simp[z]);rcases Heap.get?_push_cases q with⟨rfl,rfl⟩|q
  .exact(hs.2 _<|Bb he).trans hT
  .exact(hs.2 _ w8).trans (hk b o w8 WO q)) λb hb=>⟨hn b hb,(hf b hb).2⟩
 exact I3
def Zoo{P:Y9}{w:aQ}{es:List Expr}{k:Nat}{pos:a_}(a e it:Yy)(qA:e≠it):
  Turn P w K (.Tuple es k pos) (B9 λH xs=>bV K H a xs) [e,it] e (λi h=>(∃old,Ax h e it i old)/\h.IsListIter it a i)where
 mem:=by simp
 obj:=λi h st b hb=>by
  let⟨⟨old,he⟩,o,ho,c,d⟩:=st;simp only[Yo,rm,or_false]at hb;rcases hb with rfl|rfl
  .exact⟨_,he,λv z=>by cases z⟩
  .exact⟨o,ho,λv z=>by rw[d]at z;cases z⟩
 keep:=λi h h' st k=>by let⟨⟨old,he⟩,hit⟩:=st;exact⟨⟨old,k e i9 _ he⟩,hit.at λo q=>k it i9 o q⟩
 item:=by
  intro X hP hw hK hc i b4 s σ H E I hf st hg;subst hP hw hK;let⟨xs,x,hq,hx⟩:=hg;let⟨b6,rv,p,hz⟩:=I.list hq;let⟨u,hu,ru⟩:=rv.get hx;let⟨⟨old,he⟩,hit⟩:=st;have A9:=Y3 he;have Bi:it<c6 s:=by let⟨o,ho,_⟩:=id hit;exact Y3 ho
  refine wpAny_pyNext_enum_item he hit p.isList (x:=u) (by simpa using hu) qA λh' ho AB hT sh hk=>?_;refine⟨_,rfl,TJ (s:={s with heap:=h',toks:=s.toks+1}) ho λu4 Hj tj=>?_⟩;let⟨I2,n2⟩:=Zip (x:=x) (tk':=s.toks+1) I hf A9 Bi ru hT hk tj;exact⟨.ref<|c6 s,_,I2,rfl,⟨_,x,rfl,I.i6.fresh<|Yu _,rfl,λys hy=>by rwa[I.Su hy hq]⟩,⟨⟨_,by simpa using Hj⟩,AB.extBut tj.extBut<|cu qA⟩,n2⟩
 done:=by intro X hP hw hK hc i b4 s σ H E I hf st hg;subst hP hw hK;let⟨xs,hq,hx⟩:=hg;let⟨b6,rv,p,hz⟩:=I.list hq;let⟨⟨old,he⟩,hit⟩:=st;have hl:=rv.length;exact wpAny_pyNext_enum_end (I.ok.hd hc) he hit p.isList r0 λh' eb=>⟨rfl,I.Mg (t':=s.toks) (λb o hb q=>eb b o (λz=>hb<|by simp[z]) q) hf⟩
 self:=λ_ _ _ _ _ st h=>by let⟨⟨old,he⟩,_⟩:=st;exact Eb he h
def boot_enumerate:jY "enumerate" =O (.type "enumerate"):=by decide +kernel
open AutoSeq1 (wpAny_loadPart')
set_option maxRecDepth 100000
section
variable {prog:Y9} {w:aQ} {A:bG} {E:Yh->Yl->Prop} {s:Yl}
def ZhQ{it t:Yy}{x:Yh}(hit:s.heap.IsTupleIter it t i)(ht:s.heap.IsTuple t items)(hx:items[i]?=O x)(hQ:∀h',h'.IsTupleIter it t (i+1)->Eu it s.heap h'->Q x {s with heap:=h'}):aq (aA prog w) A (OJ<|.ref it) Q E s:=by
 let⟨o,ho,hc,hd⟩:=id hit;let⟨ol,xm,_,nl,xA⟩:=ht;unfold OJ;refine Yc (Al (name:=rC "__next__") hit.typeIs Ot
  (yu Ot hit.typeIs MC ?_<|ME _))
 show aq _ _ (field (.ref it) 0>>=_) _ _ s;refine Yc<|o_ ho hd (x:=.ref t) J ?_;show aq _ _ (if(Value.ref t==Value.none)=true then _ else _) _ _ s;rw[d4 (show¬((Value.ref t==Value.none)=true)from mY)];show aq _ _ (field (.ref it) 1>>=_) _ _ s;refine Yc<|o_ ho hd (x:=.int i 0) J ?_;show aq _ _ (seqItems? (.ref t)>>=_) _ _ s;refine Yc<|Hu xm xA ?_;simp only[u6,hx];refine Yc<|Hv ho hd i9<|Yr ⟨x,rfl,Yr<|hQ _ ?_<|OA ..⟩;exact⟨_,yP _ ho<|VD<|Ip hd _,(NM ..).trans hc,by rw[Ip hd];simp[nU]⟩
def WS{it t:Yy}(hh:A.handled=Yj)(hit:s.heap.IsTupleIter it t i)(ht:s.heap.IsTuple t items)(hx:items[i]?=Yj)(hE:∀h' e,Vc it s.heap h'->(∃o,h'.get? e=O o/\o.cls= .type "StopIteration")->E (.ref e) {s with heap:=h'}):aq (aA prog w) A (OJ<|.ref it) Q E s:=by
 let⟨o,ho,hc,hd⟩:=id hit;let⟨ol,xm,_,nl,xA⟩:=ht;unfold OJ;refine Yc (Al (name:=rC "__next__") hit.typeIs Ot
  (yu Ot hit.typeIs MC ?_<|ME _))
 show aq _ _ (field (.ref it) 0>>=_) _ _ s;refine Yc<|o_ ho hd (x:=.ref t) J ?_;show aq _ _ (if(Value.ref t==Value.none)=true then _ else _) _ _ s;rw[d4 (show¬((Value.ref t==Value.none)=true)from mY)];show aq _ _ (field (.ref it) 1>>=_) _ _ s;refine Yc<|o_ ho hd (x:=.int i 0) J ?_;show aq _ _ (seqItems? (.ref t)>>=_) _ _ s;refine Yc<|Hu xm xA ?_;simp only[u6,hx];refine Yc<|Ni<|Yc<|Hv ho hd i9 ?_;show aq _ _ (newExc (.type "StopIteration") []>>=_) _ _ _;refine Yc ?_;simp only[newExc,newTuple];refine Yc (uT ?_<|by size_fits);refine Yc (m:=firstArgMember _ _) (Ng (a:=Value.none) (by first|rfl|(simp only[firstArgMember];rfl)) ?_);refine uT ?_ (by size_fits);simp only[raiseNew];refine Yc (wpAny_handled ?_)
 first|rw[show A.in1.handled=Yj from hh]|rw[hh]
 refine Yc<|Yr<|wpAny_throw ?_;exact hE _ _ (((OA ..).extBut.push _).push _) ⟨_,Y6 _ J,rfl⟩
end
def ZmP{prog:Y9}{w:aQ}(hh:A.handled=Yj)(it l:Yy)(qA:l≠it)(items:Array Yh):
  Draws prog w A it [it,l] items.size (λi v=>items[i]?=O v) (λi h=>h.IsTupleIter it l i/\h.IsTuple l items)where
 live:=λ_ _ st=>let⟨o,ho,_⟩:=st.1;⟨o,ho⟩
 frame:=λ_ _ _ st hk=>⟨st.1.at λo e=>hk it i9 o e,st.2.at λo e=>hk l i9 o e⟩
 item:=λi s Q E hi st hQ=>by refine ZhQ st.1 st.2 (x:=items[i]) (by simp[hi]) λh' AB xi=>?_;exact hQ _ h' s.toks (by simp[hi]) ⟨AB,st.2.extBut xi.extBut qA⟩ xi
 done:=λs Q E st hE=>WS hh st.1 st.2 i9 hE
def Zgu(l:Yy)(items:Array Yh)(n:Nat)(qq:Option Yy)(sl:Array (Option Yh)):
  Meets (Builtin.«enumerate.__new__» ⟨[.type "enumerate",.ref l],[]⟩) (λ_ R s=>s.heap.get? l=O {cls:=.type "tuple",dict:=qq,data:=.seq items n,slots:=sl}/\
   R (.ok<|.ret<|.ref (s.heap.push {cls:=.type "tuple_iterator",data:=.fields #[.ref l,.int 0 0]}).objs.size)
    {s with heap:=(s.heap.push {cls:=.type "tuple_iterator",data:=.fields #[.ref l,.int 0 0]}).push {cls:=.type "enumerate",data:=.fields #[.none,.bool false,.ref<|c6 s,nU 0,.none,.none]}}):=
 .of_wp λprog w A R s h=>by
  let⟨hp,g,d,tk,os⟩:=s;let⟨hl,h⟩:=h;have xB:=sub_enumerate;have hL:Heap.IsTuple (Shared.heap ⟨hp,g,d,tk,os⟩) l items:=⟨_,hl,rfl,n,rfl⟩
  wp_walk using uR hl
  refine Kb λst=>Yr ?_;split
  .rename_i c _ _ _ _ _;cases(c==Value.type "enumerate")
   .wp_walk using uR hl,MK hL
    exact⟨_,rfl,h⟩
   .wp_walk using uR hl,MK hL
    exact⟨_,rfl,h⟩
  .wp_walk using uR hl,MK hL
   exact⟨_,rfl,h⟩
theorem Zgr{prog:Y9}{w:aQ}{l:Yy}(hL:s.heap.IsTuple l items)(h:∀h',Ax h' (c6 s+1) (c6 s) 0 .none->h'.IsTupleIter (c6 s) l 0->h'.objs.size=c6 s+2 ->
   (∀b o,s.heap.get? b=O o->h'.get? b=O o)->Q (.ref<|c6 s+1) {s with heap:=h'}):
  aq (aA prog w) A (call (.type "enumerate") [.ref l]) Q E s:=by
 let⟨⟨c,qq,dt,sl⟩,hl,hc,n,hd⟩:=hL;replace hc:c= .type "tuple":=hc;replace hd:dt= .seq items n:=hd;subst hc hd;refine callType_new NB aaA (F.typeCall_enumerate_1 _) (F.newCall_enumerate_1 _) (λobj=>F.args_object_init_2 obj _) Nl
  (Zgu l items n qq sl) ⟨hl,?_⟩
 have hz:(s.heap.push {cls:=.type "tuple_iterator",data:=.fields #[.ref l,.int 0 0]}).objs.size=c6 s+1:=yQ ..;show _/\_;rw[hz];have he:Ax ((s.heap.push {cls:=.type "tuple_iterator",data:=.fields #[.ref l,.int 0 0]}).push
   {cls:=.type "enumerate",data:=.fields #[.none,.bool false,.ref<|c6 s,nU 0,.none,.none]}) (c6 s+1) (c6 s) 0 .none:=by
  have:=Y6 (s.heap.push {cls:=.type "tuple_iterator",data:=.fields #[.ref l,.int 0 0]})
   (o:={cls:=.type "enumerate",data:=.fields #[.none,.bool false,.ref<|c6 s,nU 0,.none,.none]}) J
  rwa[hz]at this
 refine⟨⟨_,he,rfl⟩,h _ he ⟨_,Yn _<|Y6 _ J,rfl,rfl⟩ (by rw[yQ,hz]) λb o x=>Yn _<|Yn _ x⟩
def Zoq{P:Y9}{w:aQ}{es:List Expr}{k:Nat}{pos:a_}(a e it:Yy)(qA:e≠it):
  Turn P w K (.Tuple es k pos) (B9 λH xs=>dJ K H a xs) [e,it] e (λi h=>(∃old,Ax h e it i old)/\h.IsTupleIter it a i)where
 mem:=by simp
 obj:=λi h st b hb=>by
  let⟨⟨old,he⟩,o,ho,c,d⟩:=st;simp only[Yo,rm,or_false]at hb;rcases hb with rfl|rfl
  .exact⟨_,he,λv z=>by cases z⟩
  .exact⟨o,ho,λv z=>by rw[d]at z;cases z⟩
 keep:=λi h h' st k=>by let⟨⟨old,he⟩,hit⟩:=st;exact⟨⟨old,k e i9 _ he⟩,hit.at λo q=>k it i9 o q⟩
 item:=by
  intro X hP hw hK hc i b4 s σ H E I hf st hg;subst hP hw hK;let⟨xs,x,hq,hx⟩:=hg;let⟨b6,rv,p,hz⟩:=I.tuple hq;let⟨u,hu,ru⟩:=rv.get hx;let⟨⟨old,he⟩,hit⟩:=st;have A9:=Y3 he;have Bi:it<c6 s:=by let⟨o,ho,_⟩:=id hit;exact Y3 ho
  have pt:s.heap.IsTuple a b6.toArray:=p;have YH:e≠a:=by rintro rfl;let⟨o,ho,hc,_⟩:=pt;rw[he]at ho;cases ho;exact k9 hc i9
  have EA:a≠it:=by rintro rfl;let⟨o,ho,hc,_⟩:=pt;let⟨o',sx,tF,_⟩:=hit;rw[sx]at ho;cases ho;rw[tF]at hc;exact k9 hc i9
  have D:=ZmP (prog:=X.prog) (w:=X.w) (A:=X.A.in1) (I.ok.hd hc) it a EA b6.toArray;refine IL D he ⟨hit,pt⟩ (by simpa using(Yg.mp hu).1) qA (by simp[qA,YH]) λy h' tk hy ho r_ hT sh hk=>?_;have ey:y=u:=by
   have:b6.toArray[i]?=O u:=by simpa using hu
   rw[this]at hy;cases hy;rfl
  subst ey;refine⟨_,rfl,TJ (s:={s with heap:=h',toks:=tk+1}) ho λu4 Hj tj=>?_⟩;let⟨I2,n2⟩:=Zip (x:=x) (tk':=tk+1) I hf A9 Bi ru hT hk tj;exact⟨.ref<|c6 s,_,I2,rfl,⟨_,x,rfl,I.i6.fresh<|Yu _,rfl,λys hy=>by rwa[I.Sg hy hq]⟩,⟨⟨_,by simpa using Hj⟩,r_.1.extBut tj.extBut<|cu qA⟩,n2⟩
 done:=by
  intro X hP hw hK hc i b4 s σ H E I hf st hg;subst hP hw hK;let⟨xs,hq,hx⟩:=hg;let⟨b6,rv,p,hz⟩:=I.tuple hq;let⟨⟨old,he⟩,hit⟩:=st;have hl:=rv.length;have pt:s.heap.IsTuple a b6.toArray:=p;have hT:s.TypeIs (.ref e) "enumerate":=⟨_,he,rfl⟩;unfold wJ;refine Yc (Hx (Al (name:=rC "__next__") hT Ox
   (yu Ox hT Nc ?_<|MZ _)))
  show aq _ _ (field (.ref e) 2>>=_) _ _ _;refine Yc<|o_ he J (x:=.ref it) J ?_;refine Yc<|WS (I.ok.hd hc) hit pt r0 λh' x we wd=>?_;let⟨o,ho,hc⟩:=wd;refine Yc<|JU (T:="StopIteration") (b:=true) ⟨o,ho,hc⟩ isSubtype_stop ?_;exact Yr ⟨rfl,I.Mg (t':=s.toks) (λb o hb q=>we b o (λz=>hb<|by simp[z]) q) hf⟩
 self:=λ_ _ _ _ _ st h=>by let⟨⟨old,he⟩,_⟩:=st;exact Eb he h
section
variable {X:Cx} {es:List Expr} {k:Nat} {a:Expr} {p pos rV:a_} {f:E3}
def Zws(K:Yb)(ta:TA):TI:=λσ H R=>ta σ H λvs H1=>∃b,vs=[.ref b]/\((∃xs,bV K H1 b xs/\R (B9 λH xs=>bV K H b xs) H1)\/∃xs,dJ K H1 b xs/\R (B9 λH xs=>dJ K H b xs) H1)
def ZuG{ta:TA}(hg:Gl X "enumerate")(hm:X.mg "enumerate" =Yj)(ha:PA X [a] ta)(hs:Yv [a] X.env=[(false,aO a X.env)]:=by rfl):PI X (.Tuple es k rV) (.Call (.Name "enumerate" p) [a] [] pos) (Zws X.K ta):=by
 intro b4 s σ H R I h;refine Call_<|Bm I hg hm boot_enumerate<|Vl (aP (ha pos b4 s σ H _ I h) λus s1 ⟨vs,H1,I1,r1,q1⟩=>?_) hs J;let⟨b,e,q⟩:=q1;subst e;cases r1 with
 | cons r rr=>
  cases rr
  cases r
  have fp:∀{h':aH} {s2:Yl},∀c∈[c6 s1+1,c6 s1],jy X b4 H1 c:=λ{h' s2} c hc=>by
   have tF:c6 s1<=c:=by simp only[Yo,rm,or_false]at hc;rcases hc with rfl|rfl <;>omega
   exact I1.yj tF<|I1.i6.fresh tF
  rcases q with⟨xs,hq,q⟩|⟨xs,hq,q⟩
  .let⟨b6,rv,pl,hz⟩:=I1.list hq;refine call_enumerate_list pl.isList λh' hE hI sh hk=>?_;have I2:Inv X b4 σ H1 {s1 with heap:=h'}:=I1.kept (t':=s1.toks) hk;exact Eb (s:={s1 with heap:=h'}) hE ⟨_,[c6 s1+1,c6 s1],_,_,H1,rfl,I2,Zoo b _ _<|U8 _,⟨⟨_,hE⟩,hI⟩,fp (h':=h') (s2:=s1),q⟩
  .let⟨b6,rv,pl,hz⟩:=I1.tuple hq;refine Zgr (show s1.heap.IsTuple b b6.toArray from pl) λh' hE hI sh hk=>?_;have I2:Inv X b4 σ H1 {s1 with heap:=h'}:=I1.kept (t':=s1.toks) hk;exact Eb (s:={s1 with heap:=h'}) hE ⟨_,[c6 s1+1,c6 s1],_,_,H1,rfl,I2,Zoq b _ _<|U8 _,⟨⟨_,hE⟩,hI⟩,fp (h':=h') (s2:=s1),q⟩
def WU(hm:X.mg "enumerate" =Yj)(h:C3 X a f)(hg:Gl X "enumerate":=by rfl)(hs:Yv [a] X.env=[(false,aO a X.env)]:=by rfl)(xi:Yv (a::[]) X.env=(false,aO a X.env)::Yv [] X.env:=by rfl):B8 X (.Tuple es k rV) (.Call (.Name "enumerate" p) [a] [] pos) (W5 f):=
 PI.imp (ZuG hg hm (Zc h Zg xi) hs) λσ H R ak=>by
  let⟨ι,M,env,S,E,h⟩:=ak;let⟨d,M1,e1,h⟩:=Ge.bind h;refine⟨ι,M,env,S,E,?_⟩;have e2:Za f Ze env M= .ok [d] M1:=by unfold Za;rw[e1];rfl
  rw[e2];intro vs H1 ι1 x1 S1 r1;let⟨v,ws,rfl,r,q⟩:=r1.cons_inv;have:=q.nil_inv;subst this;cases d with
  | U ds=>
   let⟨b,vs,rfl,s,r⟩:=r.kj;refine⟨b,rfl,.inr ⟨vs,s,h _ H1 ι1 x1 S1 ?_⟩⟩;intro i H2 ι2 M2 x S2 _;refine⟨λd hd=>?_,λhl=>⟨vs,x.U _ _ s,by rw[r.length,hl,Qg];exact Yu _⟩⟩;rw[Qf]at hd;cases hq:ds[i]? with
   |none=>rw[hq]at hd;cases hd|some d0=>rw[hq]at hd;simp only[Ti,yO,LY]at hd;subst hd;let⟨v,hv,rv⟩:=r.get hq;refine⟨⟨vs,v,x.U _ _ s,hv⟩,λy H3 hy=>?_⟩;let⟨T,y',rfl,hT,rfl,rj⟩:=hy;have e:=rj vs<|x.U _ _ s;rw[hv]at e;cases e;exact S2.wz hT<|aB.cons Rep.int<|aB.cons (rv.mono x) aB.nil
  | ref n=>
   cases hm:M1[n]? with
   |none=>simp only[hm]at h;cases h|some o=>
    cases o with
    |qq d5=>simp only[hm]at h;cases h|dY d5=>simp only[hm]at h;cases h|ins _ _=>simp only[hm]at h;cases h|L ds=>
     simp only[hm]at h;let⟨b,ha,rfl⟩:=r.fG;let⟨vs,q,r⟩:=S1.obj n _ b hm ha;refine⟨b,rfl,.inl ⟨vs,bV.of q,h _ H1 ι1 x1 S1 ?_⟩⟩;intro i H2 ι2 M2 x S2 lk;have JG:M2[n]?=O (.L ds):=by simpa[lA]using lk
     let⟨vk,q2,r2⟩:=S2.obj n _ b JG<|x.pre _ _ ha;refine⟨λd hd=>?_,λhl=>⟨vk,bV.of q2,by rw[r2.length,hl,Qg];exact Yu _⟩⟩;rw[Qf]at hd;cases hq:ds[i]? with
     |none=>rw[hq]at hd;cases hd|some d0=>rw[hq]at hd;simp only[Ti,yO,LY]at hd;subst hd;let⟨v,hv,rv⟩:=r2.get hq;refine⟨⟨vk,v,bV.of q2,hv⟩,λy H3 hy=>?_⟩;let⟨T,y',rfl,hT,rfl,rj⟩:=hy;have e:=rj vk<|bV.of q2;rw[hv]at e;cases e;exact S2.wz hT<|aB.cons Rep.int<|aB.cons rv aB.nil
  |_=>cases h
end
end L3
namespace L3
open PySem PySem.Spec PyProof.Rows L2
section
variable {X:Cx}
def WV:jY "min" =O (.builtin "min"):=by decide +kernel
def Zvs{K:Yb}{H:Hp}{ι:List Yy}{i j:Int}{xs:List V}(r:aB K H ι [.int i,.int j] xs):xs=[.int i,.int j]:=by let⟨v1,vs1,rfl,q1,r⟩:=r.cons_inv;let⟨v2,vk,rfl,q2,r⟩:=r.cons_inv;have:=r.nil_inv;subst this;have e1:=q1.int_inv;have e2:=q2.int_inv;subst e1 e2;rfl
def WZ(hc:X.calm=true):dB X (.builtin "min") (rB X.K zx):=dB.imp (Zql hc) λxs H Q ak=>by
 let⟨ι,M,ds,S,rd,h⟩:=ak;unfold zx at h;split at h
 .exact⟨_,_,Zvs rd,h _ H ι Ext.refl S Rep.int⟩
 .exact h.elim
def QB:Yh->D
 | .int i _=>.int i|.bool b=>.bl b|.str x _=>.str x.cps.toList|_=>.Z
def Xs{K:Yb}{H:Hp}{ι:List Yy}{d:D}{v:V}{y:Yh}(hf:e_ d=true)(r:Rep K H ι d v)(rv:RelV v y):QB y=d:=by
 cases d with
 |Z=>have:=r.kh;subst this;cases rv;rfl|bl b=>have:=r.iW;subst this;cases rv;rfl|int i=>have:=r.int_inv;subst this;let⟨t,rfl⟩:=rv;rfl|str x=>have:=r.str_inv;subst this;let⟨t,rfl⟩:=rv;rfl
 |_=>simp[e_]at hf
theorem XA{K:Yb}{H:Hp}{ι:List Yy}{a:D}:∀{ds:c9} {vs:List V} {b6:List Yh},aB K H ι ds vs->Vals vs b6->ds.all e_=true->(ds.any λy=>fP y a)=b6.any λy=>fP (QB y) a
 |[],vs,b6,r,rv,_=>by have:=r.nil_inv;subst this;cases rv;rfl|d::ds,vs,b6,r,rv,hf=>by
  let⟨v,ws,rfl,r1,r2⟩:=r.cons_inv;cases rv with
  |cons q rv=>simp only[lQ,gO]at hf;simp only[nY,XA r2 rv hf.2,Xs hf.1 r1 q]
def Zza:bA X (gM .In) (r2 X.K BW):=by
 intro b4 s σ H x y v u Q I rx ry ⟨ι,M,a,b,S,ra,rb,h⟩;unfold BW at h;cases b with
 | ref n=>
  cases hn:M[n]? with
  |none=>simp only[hn]at h;cases h|some ob=>
   cases ob with
   |qq _=>simp only[hn]at h;cases h|dY _=>simp only[hn]at h;cases h|ins _ _=>simp only[hn]at h;cases h|L ds=>
    simp only[hn]at h;by_cases hf:(e_ a&&ds.all e_)=true
    .rw[c_ hf]at h;rw[gO]at hf;let⟨p,hp,rfl⟩:=rb.fG;cases ry;let⟨vs,e1,r1⟩:=S.obj n _ p hn hp;let⟨b6,uC,pl,_⟩:=I.list<|bV.of e1;have he:∀y,y∈b6.toArray->wO X.A.in1 s y v (fP (QB y) a):=λy hy=>by
      have hy:y∈b6:=by simpa using hy
      let⟨j,hj⟩:=Ut hy;have XB:j<B vs:=by rw[uC.length];exact(Yg.mp hj).1
      let⟨w,hw,lV⟩:=uC.get<|Y0 XB;rw[hj]at hw;cases hw;have XE:j<B ds:=by rwa[<-r1.length]
      let⟨z,hz,rz⟩:=r1.get<|Y0 XE;rw[Y0 XB]at hz;cases hz;have XG:=jh.mp hf.2 _<|tO XE;rw[Xs XG rz lV];exact Xi X.A.in1 ds[j] a _ x y v XG hf.1 rz ra lV rx
     refine NN (λy=>fP (QB y) a) pl.isList he ⟨.bl<|ds.any λy=>fP y a,H,I,?_,h _ H ι Ext.refl S Rep.bl⟩;show(.bool _:Yh)= .bool _;rw[XA r1 uC hf.2];simp
    .rw[d4 hf]at h;cases h
 |_=>cases h
end
section
variable {prog:Y9} {w:aQ} {A:bG} {E:Yh->Yl->Prop} {s:Yl}
def XI{it t:Yy}{items:Array Yh}(qA:t≠it):∀(n i:Nat) (s:Yl) (Q:List Yh->Yl->Prop),s.heap.IsListIter it t i->s.heap.IsList t items->i+n<=items.size ->
  (∀h',h'.IsListIter it t (i+n)->Eu it s.heap h'->Q ((items.toList.drop i).take n) {s with heap:=h'})->aq (aA prog w) A (draw (.ref it) n) Q E s
 |0,i,s,Q,hit,_,_,hQ=>by show aq _ _ (pure []) Q E s;exact Yr (by simpa using hQ s.heap hit (Heap.SameBut.refl ..))|n+1,i,s,Q,hit,ht,hle,hQ=>by
  have j1:i<items.size:=by omega
  show aq _ _ (wJ (.ref it)>>=_) Q E s;refine Yc (IM hit ht (x:=items[i]) (by simp[j1]) λh₁ SN Ci=>?_);refine Yc<|fW<|XI qA n (i+1) _ _ SN (ht.extBut Ci.extBut qA) b5 λh₂ AeI YJ=>Yr ?_;have hd:items.toList.drop i=items[i]::items.toList.drop (i+1):=by simp[yI,j1]
  have:=hQ h₂ (by rwa[show i+(n+1)=i+1+n by exact fY b5 b5])<|Ci.trans YJ;rwa[hd,HY]at this
theorem ZiA{t:Yy}{items:Array Yh}{Q:List Yh->Yl->Prop}(hh:A.handled=Yj)(ht:s.heap.IsList t items)(hQ:∀h',Vc (c6 s) s.heap h'->Q items.toList {s with heap:=h'}):aq (aA prog w) A (unpackItems (.ref t) items.size Yj) Q E s:=by
 have j1:t≠s.heap.objs.size:=by let⟨o,ho,_⟩:=ht;exact d8<|Y3 ho
 have hT:s.TypeIs (.ref t) "list":=by let⟨o,ho,hc,_⟩:=ht;exact⟨o,ho,hc⟩
 unfold unpackItems;refine Yc ?_
 .unfold notIterableAtAll;refine Yc<|TY hT F.slot_list_iter.lookup ?_;refine Yr ?_;simp only[yR,if_false];refine Yc<|fW<|yt ht ?_;have Bn:(s.heap.push {cls:=.type "list_iterator",data:=.fields #[.ref t,.int 0 0]}).IsList t items:=ht.at λo e=>Yn _ e;refine Yc<|fW<|XI j1 items.size 0 _ _ ⟨_,Y6 _ J,rfl,rfl⟩ Bn b5 λh₁ SN Ci=>?_;have rj:List.take items.size (List.drop 0 items.toList)=items.toList:=by
   rw[Ib];exact tL i9
  rw[rj];rw[d4 i9];have ht₁:h₁.IsList t items:=Bn.extBut Ci.extBut j1;refine Yc<|fW<|IS hh SN ht₁ i9 λh₂ he₂=>?_;simp only[Option.isSome_none,yR,if_false];refine Yr<|hQ h₂ λb o hb e=>he₂ b o hb<|Ci.extBut b o hb<|Yn _ e
def ZhP{env:dz}{elts:List Expr}{x1}{pos:a_}{t:Yy}{items:Array Yh}{Q:Unit->Yl->Prop}(hh:A.handled=Yj)(ht:s.heap.IsList t items)(hn:(kJ elts env).length=items.size)(By:(kJ elts env).findIdx? (·.1)=Yj)(h:∀h',Vc (c6 s) s.heap h'->aq (aA prog w) A (assignInOrder ((kJ elts env).map (·.2)) items.toList) Q E {s with heap:=h'}):
  aq (aA prog w) A (kW (.Tuple elts x1 pos) env<|.ref t) Q E s:=by
 rw[assign_Tuple];refine Yc<|tD ?_;unfold unpack;rw[hn,By];exact Yc<|fW<|ZiA hh ht h
end
section
variable {X:Cx} {e:Expr} {es:List Expr} {pos:a_} {f:E3}
def AeJ(K:Yb)(n:Nat)(t:t6):TG:=λv σ H Q=>∃a xs,v= .ref a/\bV K H a xs/\xs.length=n/\t xs σ H Q
def Zwi{k:Nat}{t:t6}{n:Nat}(hc:X.calm=true)(h:t7 X es t)(hn:(kJ es X.env).length=n:=by rfl)(r_:(kJ es X.env).findIdx? (·.1)=Yj:=by rfl):PG X (.Tuple es k pos) (AeJ X.K n t):=by intro b4 s σ H v u Q I r hw;let⟨a,xs,e1,hq,hl,hw⟩:=hw;subst e1;cases r;let⟨b6,rv,ht,hz⟩:=I.list hq;refine ZhP (I.ok.hd hc) ht.isList (by simp[hn,<-hl,rv.length]) r_ λh' hx=>?_;have I1:Inv X b4 σ H {s with heap:=h'}:=I.kept (t':=s.toks) λb o e=>hx b o (d8<|Y3 e) e;exact h b4 _ σ H xs _ Q I1 (by simpa using rv) hw
def Zm0:∀(is:b9) (ds:c9) (env env':bO),bindAll is ds env=O env'->B ds=B is:=by
 intro is
 induction is with
 |nil=>intro ds env env' h;cases ds with|nil=>rfl|cons d ds=>cases h
 |cons i is ih=>intro ds env env' h;cases ds with|nil=>cases h|cons d ds=>simp[ih ds _ _ h]
def XN{is:b9}{k:Nat}{rV:a_}(hc:X.calm=true)(he:C3 X e f)(h:JF X es is)(hs:T7 [.Tuple es k rV] e pos.line X.env=pure false:=by rfl)(hw:T8 [.Tuple es k rV] e X.env=pure Yj:=by rfl)(h1:(kJ [.Tuple es k rV] X.env).map (·.2)=[kW (.Tuple es k rV) X.env]:=by rfl)(hn:(kJ es X.env).length=B is:=by rfl)(r_:(kJ es X.env).findIdx? (·.1)=Yj:=by rfl):CS X (.Assign [.Tuple es k rV] e pos) (xr f is):=
 (PH he (Zwi (n:=B is) hc h hn r_) hs hw h1).imp λD σ H ak=>by
 let⟨ι,M,env,S,E,hh⟩:=ak;refine⟨ι,M,env,S,E,?_⟩;unfold xr at hh;cases q:f env M with
 |exc x M1=>rw[q]at hh;exact hh.elim|bad=>rw[q]at hh;exact hh.elim|ok d M1=>
  rw[q]at hh;cases d with
  | ref n=>
   simp only at hh;cases hm:M1[n]? with
   |none=>simp only[hm]at hh;exact hh.elim|some o=>
    cases o with
    |qq _=>simp only[hm]at hh;exact hh.elim|dY _=>simp only[hm]at hh;exact hh.elim|ins _ _=>simp only[hm]at hh;exact hh.elim|L ds=>
     simp only[hm]at hh;cases qb:bindAll is ds env with
     |none=>simp only[qb]at hh;exact hh.elim|some eY=>simp only[qb]at hh;intro v H1 ι1 x1 S1 r1;let⟨a,ha,rfl⟩:=r1.fG;let⟨vs,hv,rv⟩:=S1.obj n _ a hm ha;exact⟨a,vs,rfl,bV.of hv,by rw[rv.length];exact Zm0 _ _ _ _ qb,ι1,M1,env,ds,eY,S1,E.mono x1,rv,qb,λσ' E'=>hh σ' H1 ι1 x1 S1 E'⟩
  |_=>exact hh.elim
end
open AutoSeq1 (wpAny_loadPart')
set_option maxRecDepth 100000
def Zhw(l:Yy)(items:Array Yh)(n:Nat)(b:Yy)(sg:Array Yh)(n2:Nat)(sl:Array (Option Yh))(hl:¬(!items.isEmpty&&Ew (items.size+sg.size))=true)(hz:items.size<=bI)(hz2:items.size+sg.size<=bI+1):
  Meets (Builtin.«list.extend» ⟨[.ref l,.ref b],[]⟩) (λ_ R s=>s.heap.get? l=O {cls:=.type "list",data:=.seq items n}/\s.heap.get? b=O {cls:=.type "tuple",data:=.seq sg n2,slots:=sl}/\
   R (.ok<|.ret .none) {s with heap:=s.heap.update l<|Bf λx=>x++sg}):=
 .of_wp λprog w A R s h=>by
  let⟨hp,g,d,tk,os⟩:=s;let⟨h1,h2,h⟩:=h
  wp_walk using uR h1,uR h2
  rw[show(Bf (λx=>x++sg) {cls:=Value.type "list",data:=Data.seq items n}).data.pastItsLine=Yj by show(if(items++sg).size>bI+1 then O "sequence:memory" else Yj)=Yj;rw[d4 (by rw[Array.size_append];exactλz=>by omega)]];exact Yr<|Yr ⟨_,rfl,h⟩
section
variable {X:Cx} {o e:Expr} {es:List Expr} {apos f_:a_} {f:E3} {gl:d_}
def XT(K:Yb):V->List V->Hp->VK->Prop:=λx vs H Q=>∃l b xs zs,x= .ref l/\vs=[.ref b]/\H l=O (.L xs)/\dJ K H b zs/\xs.length+B zs<=bI/\Q .Z (upd H l<|.L<|xs++zs)
def ZoW:mZ X "list.extend" (XT X.K):=by
 intro b4 s σ H x vs v us Q I rx rv h;let⟨l,b,xs,zs,rfl,rfl,hH,hB,hz,q⟩:=h;cases rx;let⟨u,rfl,ru⟩:=rv.one;cases ru;let⟨z,b6,n,r,hl,e⟩:=I.wu hH;let⟨p5,r2,⟨⟨c,dc,dt,sl⟩,e2,⟨hc,hd⟩,n2,hs⟩,z2⟩:=I.AdI hB;replace hc:c= .type "tuple":=hc;replace hd:dc=Yj:=hd;replace hs:dt= .seq p5.toArray n2:=hs;subst hc hd hs;have Se:=r2.length;have sh:b6.toArray.size+p5.toArray.size<=bI:=by rw[Yt,Yt];omega
 have Hf:¬(!b6.toArray.isEmpty&&Ew (b6.toArray.size+p5.toArray.size))=true:=by rw[Wy sh,mj];exact mY
 refine uV NA ⟨_,e,rfl⟩ Nw (Nn _ _)
  (Zhw l b6.toArray n b p5.toArray n2 sl Hf A2 b5) ⟨e,e2,?_⟩
 refine⟨.Z,_,I.Hh (its':=b6++p5) hH e i9 (r.append r2) ?_,rfl,q⟩;rwa[Yd]
def ZsV:mZ X "list.extend" (rM X.K rN):=mZ.imp (r:=λx xs H Q=>Sb x xs H Q\/XT X.K x xs H Q) (λb4 s σ H x xs v us Q I rx rs q=>q.elim (Zqy b4 s σ H x xs v us Q I rx rs)<|ZoW b4 s σ H x xs v us Q I rx rs) λx xs H Q ak=>by
 let⟨ι,M,a,ds,S,ra,rd,h⟩:=ak;cases a with
 | ref n=>
  cases ds with
  |nil=>cases h|cons d ds=>
   cases ds with
   |cons _ _=>cases d<;>cases h|nil=>
    let⟨v,ws,rfl,r1,r2⟩:=rd.cons_inv;have:=r2.nil_inv;subst this;let⟨p,hp,rfl⟩:=ra.fG;cases hn:M[n]? with
    |none=>cases d<;>first|cases h|(rw[FJ,hn]at h;cases h)|(rw[FN,hn]at h;cases h)
    | some o=>
     cases o with
     |qq _=>cases d<;>first|cases h|(rw[FJ,hn]at h;cases h)|(rw[FN,hn]at h;cases h)
     |dY _=>cases d<;>first|cases h|(rw[FJ,hn]at h;cases h)|(rw[FN,hn]at h;cases h)
     |ins _ _=>cases d<;>first|cases h|(rw[FJ,hn]at h;cases h)|(rw[FN,hn]at h;cases h)
     | L z=>
      let⟨vs,e,rv⟩:=S.obj n _ p hn hp;cases d with
      | U y=>
       simp only[FJ,FN,hn]at h;split at h
       .rename_i hz;let⟨b,ys,rfl,sb,ry⟩:=r1.kj;let⟨x2,S2⟩:=S.yo (.inr<|.inl ⟨_,e⟩) hp<|rv.append ry;exact .inr ⟨p,b,vs,ys,rfl,rfl,e,sb,by rw[rv.length,ry.length];exact Yi hz<|LM<|N_ mC,h _ _ _ x2 S2 Rep.Z⟩
       .exact h.elim
      | ref m=>
       simp only[FJ,FN,hn]at h;cases hm:M[m]? with
       |none=>simp only[hm]at h;cases h|some o2=>
        cases o2 with
        |qq _=>simp only[hm]at h;cases h|dY _=>simp only[hm]at h;cases h|ins _ _=>simp only[hm]at h;cases h|L y=>
         simp only[hm]at h;split at h
         .rename_i hz;let⟨b,hb,rfl⟩:=r1.fG;let⟨ys,eb,ry⟩:=S.obj m _ b hm hb;let⟨x2,S2⟩:=S.yo (.inr<|.inl ⟨_,e⟩) hp<|rv.append ry;exact .inl ⟨p,b,vs,ys,rfl,rfl,e,eb,by rw[rv.length,ry.length];exact Yi hz.2<|LM<|N_ mC,h _ _ _ x2 S2 Rep.Z⟩
         .exact h.elim
      |_=>cases h
 |_=>cases ds<;>cases h
def XU(ho:C3 X o f)(ha:CA X (e::es) gl)(p9:o9 o "extend" X.env (aO o X.env)=aO o X.env:=by rfl)(rX:((b8 f_<|Yv (e::es) X.env).all (λx=>!x.1)&&(jN f_<|jL [] X.env).all (λx=>x.1.isSome)
   &&decide ((e::es).length+([]:List Keyword).length+(if([]:List Keyword).isEmpty then 0 else 1)<30))=true:=by rfl)(o3:(apos.endLine==f_.line)=true:=by rfl)(hs:Yv (e::es) X.env=(false,aO e X.env)::Yv es X.env:=by rfl)(p4:(b8 f_<|Yv es X.env).any (·.1)=false:=by rfl):
  C3 X (.Call (.Attribute o "extend" apos) (e::es) [] f_) (aU bK rN f gl):=
 (Jg Vs PySem.F.slot_list_extend PySem.F.type_list_extend ZsV ho ha p9 rX o3 hs p4).imp (JR XJ)
def Zvv{K:Yb}{T:String}{ty:D->b3->Bool}{m:D->c9->b3->R3 D}(wc:∀H ι M a x,aF K H ι M->Rep K H ι a x->ty a M=true->Br K T x H)(σ:St)(H:Hp)(Q:VK)(h:oO K (aU ty m f Ze) σ H Q):RO K T (rM K m) (oO K f) σ H Q:=by
 let⟨ι,M,env,S,E,h⟩:=h;let⟨a,M1,e1,h⟩:=au.bind h;refine⟨ι,M,env,S,E,?_⟩;rw[e1];intro v H1 ι1 x1 S1 r1;by_cases ht:ty a M1=true
 .rw[c_ ht]at h;exact⟨wc _ _ _ _ _ S1 r1 ht,ι1,M1,a,[],S1,r1,aB.nil,h.up x1⟩
 .rw[d4 ht]at h;cases h
def QC(ho:C3 X o f)(p9:o9 o "pop" X.env (aO o X.env)=aO o X.env:=by rfl)(o3:(apos.endLine==f_.line)=true:=by rfl):C3 X (.Call (.Attribute o "pop" apos) [] [] f_) (aU bK rJ f Ze):=(ZwQ Vs PySem.F.slot_list_pop PySem.F.type_list_pop Zy7 ho p9 o3).imp<|Zvv XJ
end
end L3
namespace L3
open PySem PySem.Spec PyProof.Rows L2
set_option maxRecDepth 100000
section
variable {X:Cx} {elt tg iter:Expr} {ifs:List Expr} {scope:Scope} {pos:a_} {i:BV} {own:Nat} {g:G3} {ts:List E3} {f:E3} {N':List aj}
def XY{b4:List (Yy×aK)}{σ:St}{s2:Yl}{H2:Hp}{ι2:List Yy}{M2:b3}{env:bO}{it:Yy}{fp:List Yy}{tn:Nat->aH->Prop}{i4:It}{bD:Jw}{Q:VK}{E:Yh->Yl->Prop}(l9:zL X scope N' own)(hc:X.calm=true)(hb:∀C cl s H ex,CG (gA X scope N' C cl s H ex) tg g/\rR (gA X scope N' C cl s H ex) ifs ts/\C3 (gA X scope N' C cl s H ex) elt f)(I2:Inv X b4 σ H2 s2)(T:Turn X.prog X.w X.K tg i4 fp it tn)(AA:tn 0 s2.heap)(s_:∀b∈fp,jy X b4 H2 b)(S2:aF X.K H2 ι2 M2)(E2:bT X.K H2 ι2 env σ)(ok:Qz X.K H2 ι2 bD i4)(h:au X.K H2 ι2 Q (lB bD.lk g ts f (B M2) bD.items (env++Yq own Yj)<|M2++[.L []]))(RR:Yh->Yy->ph->Yl->Prop)(fin:∀(acc C:Yy) (s':Yl) (m:aj->Option Yh) (H':Hp),s'.heap.Ns C m->jy X b4 H' C->Inv X b4 σ H' s'->Q (.ref acc) H'->RR (.ref acc) C (.ok .next) s'):
  aq (aA X.prog X.w) X.A (Nr []) (λacc s₃=>aq (aA X.prog X.w) X.A (T6 scope X.env.globals (iB X.env.cells scope.names []) [] X.env.qual Yj .none<|O X.env) (λtf s₄=>kO (aA X.prog X.w) X.A (.compStart (.ListComp elt [⟨tg,iter,ifs,0⟩] scope pos) 0 (.ref it) acc {tf with scope:=yD scope X.env}) (RR acc tf.locals) s₄) E s₃) E s2:=by
 refine uT ?_;have hD:H2 (c6 s2)=Yj:=I2.i6.fresh<|Yu _;let⟨x3,S3,r3⟩:=S2.L hD<|aB.nil (K:=X.K) (H:=H2) (ι:=ι2);have I3:Inv X b4 σ (upd H2 (c6 s2)<|.L []) {s2 with heap:=s2.heap.push {cls:=.type "list",data:=.seq ([]:List Yh).toArray}}:=I2.laid (t':=s2.toks) (λb u e=>Yn _ e) (Yu _) ⟨g_ _,[],0,.nil,Y6 _ J⟩;generalize D9:({s2 with heap:=s2.heap.push {cls:=.type "list",data:=.seq ([]:List Yh).toArray}}:Yl)=s3 at I3 |-;have Ai:∀b o,s2.heap.get? b=O o->s3.heap.get? b=O o:=λb o e=>by rw[<-D9];exact Yn _ e
 have o7:∀b∈fp,jy X b4 (upd H2 (c6 s2)<|.L []) b:=λb hb=>by refine⟨?_,(s_ b hb).2⟩;let⟨o,e,_⟩:=T.obj _ _ AA b hb;rw[bH<|d8<|Y3 e];exact(s_ b hb).1
 have yp:∀b∈fp,b<c6 s3:=λb hb=>by let⟨o,e,_⟩:=T.obj _ _ AA b hb;exact Y3<|Ai b o e
 have st3:tn 0 s3.heap:=T.keep _ _ _ AA λb hb o e=>Ai b o e;refine IX l9.cell (by intro y hy;cases hy) (λh4 tN DZ=>?_) l9.kind;have G_:∀b o,s3.heap.get? b=O o->h4.get? b=O o:=λb o e=>DZ.extBut b o (d8<|Y3 e)<|Yn _ e;have I4:=VQ (own:=own) (N':=N') (tk:=s3.toks+([]:List (aj×Yh)).length) I3 l9.kind l9.cell l9.free l9.len l9.VX o7 yp tN G_;have JQ:tn 0 h4:=T.keep _ _ _ st3 λb hb o e=>G_ b o e;have SQ:∀{H':Hp},(∀b∈fp,H' b=Yj)->∀b∈fp,jy (gA X scope N' (c6 s3) (iB X.env.cells scope.names []) s3 (upd H2 (c6 s2)<|.L []) fp) [] H' b:=λhn b hb=>by have xk:∀y∈scope.names,y.2= .free->∃c,X.env.cells.lookup y.1=O c:=λy hy e=>I2.ok.has y.1<|l9.free y hy e;refine⟨hn b hb,d8<|yp b hb,λhz=>I4.ok.yh b hb hz,.inl hb,λx c hx=>(I4.ok.Fd b hb).2 x c hx,λp hp=>k9 (show p∈([]:List (Yy×aK))from hp) i9⟩
 let⟨hg,yT,tP⟩:=hb (c6 s3) (iB X.env.cells scope.names []) s3 (upd H2 (c6 s2)<|.L []) fp;have loop:∀s₄:Yl,s₄={s3 with heap:=h4,toks:=s3.toks+([]:List (aj×Yh)).length} ->
   kO (aA X.prog X.w) X.A (.compLoop (.ListComp elt [⟨tg,iter,ifs,0⟩] scope pos) 0 (.ref it) (.ref<|c6 s2)<|HF scope (iB X.env.cells scope.names []) (c6 s3) X.env) (RR (.ref<|c6 s2)<|c6 s3) s₄:=by
  rintro s₄ rfl;obtain⟨W,hW⟩:∃W:Nat->Yl->Prop,∀n s',W n s'↔∀G:Prop,(∀k σ5 H5 ι5 M5 wA,Inv (gA X scope N' (c6 s3) (iB X.env.cells scope.names []) s3 (upd H2 (c6 s2)<|.L []) fp) [] σ5 H5 s'->tn k s'.heap->(∀b∈fp,H5 b=Yj)->n=B bD.items-k->k<=B bD.items ->
   Ext X.K H2 ι2 H5 ι5->aF X.K H5 ι5 M5->bT X.K H5 ι5 wA σ5->ι5[B M2]?=O (c6 s2)->au X.K H5 ι5 Q (lB bD.lk g ts f (B M2) (bD.items.drop k) wA M5)->G)->G:=⟨_,λ_ _=>Iff.rfl⟩
  refine VM W ?_ bD.items.length
   ((hW _ _).2 λ_ c=>c 0 _ _ _ _ _ I4 JQ (λb hb=>(o7 b hb).1) J (g_ _) x3 S3 ((E2.mono x3).grow own) ?_<|h.up x3)
  .intro n s5 hn5;refine(hW _ _).1 hn5 _ λk σ5 H5 ι5 M5 wA I5 n8 rE e hk x5 S5 E5 hι h5=>?_;subst e;by_cases j1:k<bD.items.length
   .have hd:bD.items[k]?=O bD.items[k]:=by simp[j1]
    rw[yI j1]at h5;unfold lB at h5;by_cases lk:lA bD.lk M5=true
    .rw [c_ lk]at h5;let⟨go,yl⟩:=(ok k H5 ι5 M5 x5 S5 lk).1 _ hd;cases eg:g bD.items[k] wA with
     |none=>rw[eg]at h5;exact h5.elim|some wB=>
      rw[eg]at h5;refine aP (T.item (gA X scope N' (c6 s3) (iB X.env.cells scope.names []) s3 (upd H2 (c6 s2)<|.L []) fp) J J J hc k [] s5 σ5 H5 (λ_ _=>False) I5 (SQ rE) n8 go) λr s6 ak=>?_;let⟨u,hr,h6⟩:=ak;subst hr;refine aP h6 λ_ s7 ak=>?_;let⟨x,H7,I7,r7,y7,nD,Qx⟩:=ak;let⟨y8,S7,rx⟩:=yl x H7 y7;have I7':=I7.pinned (SQ Qx)<|T.obj _ _ nD;refine aP (hg _ s7 σ5 H7 x u (λσ' H'=>H'=H7/\bT X.K H7 ι5 wB σ') I7' r7 ⟨ι5,M5,wA,_,wB,S7,E5.mono y8,rx,eg,λσ' E'=>⟨rfl,E'⟩⟩) λ_ s8 ak=>?_;let⟨σ8,H8,I8,e8,E8⟩:=ak;subst e8;replace h5:=au.up y8 h5;replace x5:=x5.trans y8;replace S5:=S7;have back:∀{σ':St} {H':Hp} {s':Yl},Inv (gA X scope N' (c6 s3) (iB X.env.cells scope.names []) s3 (upd H2 (c6 s2)<|.L []) fp) ([]++wU fp s7.heap) σ' H' s' ->
        Inv (gA X scope N' (c6 s3) (iB X.env.cells scope.names []) s3 (upd H2 (c6 s2)<|.L []) fp) [] σ' H' s'/\tn (k+1) s'.heap/\∀b∈fp,H' b=Yj:=λ{σ' H' s'} I'=>by
       refine⟨I'.G9,T.keep _ _ _ nD λb hb o e=>(I'.pin (b,o)<|Y2 _<|Y2 _<|Fe hb e).1,λb hb=>?_⟩;let⟨o,e,d⟩:=T.obj _ _ nD b hb;exact(I'.pin (b,o)<|Y2 _<|Y2 _<|Fe hb e).2.1
      let⟨b,M9,e9,h9⟩:=au.bind h5;refine aP (yT _ s8 σ8 H8 (λb' H'=>b'=b/\∃ι9,Ext X.K H8 ι5 H' ι9/\aF X.K H' ι9 M9) I8 ⟨ι5,M5,wB,S5,E8,by rw[e9];exactλH' ι' x' S'=>⟨rfl,ι',x',S'⟩⟩) λb' s9 ak=>?_;let⟨H9,I9,eb,ι9,x9,S9⟩:=ak;subst eb;cases b' with
      |false=>rw[d4 aaA]at h9 |-;let⟨I9',st9,fr9⟩:=back I9;exact⟨B bD.items-(k+1),b5,(hW _ _).2 λ_ c=>c (k+1) σ8 H9 ι9 M9 wB I9' st9 fr9 J j1 (x5.trans x9) S9 (E8.mono x9) (x9.pre _ _ hι)<|h9.up x9⟩|true=>
       rw[c_ J]at h9 |-;let⟨d,JP,DU,sj⟩:=au.bind h9;refine aP (tP _ s9 σ8 H9 (λv H'=>∃uo,Ext X.K H9 ι9 H' uo/\aF X.K H' uo JP/\Rep X.K H' uo d v) I9 ⟨ι9,M9,wB,S9,E8.mono x9,by rw[DU];exactλv H' ι' x' S' r'=>⟨ι',x',S',r'⟩⟩) λxv Qv ak=>?_;let⟨v,Xv,Xw,DV,uo,x10,Qw,rd⟩:=ak;have SX:uo[B M2]?=O (c6 s2):=x10.pre _ _<|x9.pre _ _ hι;cases hm:JP[B M2]? with
       |none=>rw[hm]at sj;exact sj.elim|some o=>
        cases o with
        |qq _=>rw[hm]at sj;exact sj.elim|dY _=>rw[hm]at sj;exact sj.elim|ins _ _=>rw[hm]at sj;exact sj.elim|L xs=>
         rw[hm]at sj;by_cases hz:B xs<SZ
         .simp only[c_ hz]at sj;let⟨vs,ev,uC⟩:=Qw.obj _ _ _ hm SX;let⟨yB,Xu⟩:=Qw.yo (.inr<|.inl ⟨_,ev⟩) SX<|uC.append<|aB.cons rd aB.nil;refine aP (Wz _ Qv σ8 Xv (.ref<|c6 s2) [v] (.ref<|c6 s2) [xv] (λ_ H'=>H'=upd Xv (c6 s2) (.L<|vs++[v])) Xw J (.cons DV .nil) ⟨_,vs,v,rfl,rfl,ev,by rw[uC.length];exact Y5 hz mC,rfl⟩) λ_ Qt ak=>?_;let⟨_,H11,Qu,_,eH⟩:=ak;subst eH;let⟨AeK,AeL,AeM⟩:=back Qu;exact⟨B bD.items-(k+1),b5,(hW _ _).2 λ_ c=>c (k+1) σ8 _ uo _ wB AeK AeL AeM J j1 (((x5.trans x9).trans x10).trans yB) Xu (((E8.mono x9).mono x10).mono yB) SX<|((sj.up x9).up x10).up yB⟩
         .simp only[d4 hz]at sj;exact sj.elim
    .rw[d4 lk]at h5;exact h5.elim
   .have e0:k=B bD.items:=fY hk<|k_ j1;subst e0;rw[NZ]at h5;unfold lB at h5;by_cases lk:lA bD.lk M5=true
    .rw[c_ lk]at h5;refine aP (T.done (gA X scope N' (c6 s3) (iB X.env.cells scope.names []) s3 (upd H2 (c6 s2)<|.L []) fp) J J J hc _ [] s5 σ5 H5 (λ_ _=>False) I5 (SQ rE) n8<|(ok _ H5 ι5 M5 x5 S5 lk).2 J) λr s6 ak=>?_;let⟨hr,I6⟩:=ak;subst hr;let⟨m6,Xx,_⟩:=I6.loc;have I7:Inv X b4 σ H5 s6:=I3.vS (ch:=fp) I6.os I6.base I6.i6 I6.bare λb hb=>⟨(o7 b hb).2.2.2.1,(o7 b hb).2.1,(o7 b hb).2.2.2.2.1,(o7 b hb).2.2.2.2.2⟩;exact fin _ _ s6 m6 H5 Xx (I3.yj (Yu _) I6.free) I7<|h5 _ H5 ι5 Ext.refl S5<|Rep.ref hι
    .rw[d4 lk]at h5;exact h5.elim
  .rw[<-S2.len];simp
 exact IP (loop _ J)<|T.self _ 0 _ _ _ JQ<|loop _ J
def Zz9(l9:zL X scope N' own)(B_:X.xe=λ_ _=>False)(hc:X.calm=true)(hi:B8 X tg iter i)(hb:∀C cl s H ex,CG (gA X scope N' C cl s H ex) tg g/\rR (gA X scope N' C cl s H ex) ifs ts/\C3 (gA X scope N' C cl s H ex) elt f)(hs:∀x,Ao iter X.env x=pure x:=by intro _;rfl):C3 X (.ListComp elt [⟨tg,iter,ifs,0⟩] scope pos) (zy i own g ts f):=by intro b4 s σ H Q I h;let⟨ι,M,env,S,E,h⟩:=h;let⟨bD,M1,e1,h⟩:=au.bind h;have xk:∀y∈scope.names,y.2= .free->∃c,X.env.cells.lookup y.1=O c:=λy hy e=>I.ok.has y.1<|l9.free y hy e;rw[eval_ListComp];refine MJ (use:=Yj) J hs (Qp xk) l9.kind l9.names ?_;refine aP (hi b4 s σ H (λi4 H'=>∃ι',Ext X.K H ι H' ι'/\aF X.K H' ι' M1/\Qz X.K H' ι' bD i4) I ⟨ι,M,env,S,E,by rw[e1];exactλi4 H' ι' x S' o=>⟨ι',x,S',o⟩⟩) λv s1 h1=>aP h1 λAN s2 h2=>?_;let⟨it,fp,tn,i4,H2,rfl,I2,T,xn,f2,ι2,x2,S2,ok⟩:=h2;refine XY (own:=own) (g:=g) (ts:=ts) (f:=f) l9 hc hb I2 T xn f2 S2 (E.mono x2) ok (h.up x2) (λacc C=>Nj (aA X.prog X.w) X.A X.xe Yj (EP X b4 σ Q) acc C) ?_;intro acc C s' m H' hn hf I' hq;let⟨f0,f1,Xy,f3,f4,f5⟩:=hf;exact⟨m,hn,λh' sb=>⟨.ref acc,H',I'.turned (t':=s'.toks) (λb o hb e=>(sb.2 b hb).trans e) f0 f1 f3 f4 f5,rfl,hq⟩⟩
def XZ(j:Nat){x:aj}{pos' sf:a_}(l9:zL X scope N' own)(B_:X.xe=λ_ _=>False)(hc:X.calm=true)(hN:X.N.Nodup)(hi:B8 X tg iter i)(hb:∀C cl s H ex,CG (gA X scope N' C cl s H ex) tg g/\rR (gA X scope N' C cl s H ex) ifs ts/\C3 (gA X scope N' C cl s H ex) elt f)(hj:X.N[j]?=O x:=by rfl)(hx:Loc X.env.scope x:=by first|exact Or.inl rfl|exact Or.inr J)(hf:X.fn x=true\/X.env.scope.names.lookup x=O .local:=by first|exact .inl rfl|exact .inr J)(Ee:tG (.ListComp elt [⟨tg,iter,ifs,0⟩] scope pos) (O (.Name x pos')) sf.line X.env=pure true:=by rfl)(hs:∀x,Ao iter X.env x=pure x:=by intro _;rfl):CS X (.Assign [.Name x pos'] (.ListComp elt [⟨tg,iter,ifs,0⟩] scope pos) sf) (aC j (zy i own g ts f)):=by
 intro b4 s σ H D I h;let⟨ι,M,env,S,E,h⟩:=h;have h0:au X.K H ι (λv H'=>D.nx (σ.set j<|O v) H') (zy i own g ts f env M):=by
  unfold aC at h;cases q:zy i own g ts f env M with
  |ok d M1=>rw[q]at h;exactλv H1 ι1 x1 S1 r1=>h _ H1 ι1 x1 S1 ((E.mono x1).set j r1)|exc _ _=>rw[q]at h;cases h|bad=>rw[q]at h;cases h
 let⟨bD,M1,e1,h1⟩:=au.bind h0;have xk:∀y∈scope.names,y.2= .free->∃c,X.env.cells.lookup y.1=O c:=λy hy e=>I.ok.has y.1<|l9.free y hy e;rw[IT _ _ _ _ Ee];refine Yc<|tD<|Yc ?_;show aq _ X.A (do let _ ←comprehension (.ListComp elt [⟨tg,iter,ifs,0⟩] scope pos) scope X.env _ (Nr []) false (aO iter X.env) (O<|kW (.Name x pos') X.env)) _ _ s;refine Yc<|gD (MJ (use:=O<|kW (.Name x pos') X.env) (Q:=λ_ s'=>SP X b4 D .next s') J hs (Qp xk) l9.kind l9.names ?_) (λ_ s' hq=>Yr<|Yr hq) λ_ _ e=>e;refine aP (hi b4 s σ H (λi4 H'=>∃ι',Ext X.K H ι H' ι'/\aF X.K H' ι' M1/\Qz X.K H' ι' bD i4) I ⟨ι,M,env,S,E,by rw[e1];exactλi4 H' ι' x S' o=>⟨ι',x,S',o⟩⟩) λv s1 A8=>aP A8 λAN s2 h2=>?_;let⟨it,fp,tn,i4,H2,rfl,I2,T,xn,f2,ι2,x2,S2,ok⟩:=h2;refine XY (own:=own) (g:=g) (ts:=ts) (f:=f) l9 hc hb I2 T xn f2 S2 (E.mono x2) ok (h1.up x2) (λacc C=>Nj (aA X.prog X.w) X.A X.xe (O<|kW (.Name x pos') X.env) (λ_ s'=>SP X b4 D .next s') acc C) ?_;intro acc C s' m H' hn Xz I' hq;let⟨f0,f1,Xy,f3,f4,f5⟩:=Xz;show aq _ X.A (kW (.Name x pos') X.env<|.ref acc) _ _ s';refine TQ<|V6 I' hN hj hx (show RelV (.ref acc) (.ref acc)from rfl) (λzI XC ⟨a,sb,ha⟩=>?_) hf;have XD:C≠a:=by
  rcases ha with rfl|ha
  .exact f1
  .exact cu<|f4 x a ha
 exact⟨m,hn.sameBut sb XD,λh' XF=>⟨_,H',XC.turned (t':=zI.toks) (λb o hb e=>(XF.2 b hb).trans e) f0 f1 f3 f4 f5,hq⟩⟩
end
open PySem PySem.W PyProof.Rows
section
variable {M:Model} {A:bG} {E:Yh->Yl->Prop} {G:Yl->Prop}
def TT(M:Model)(A:bG)(E:Yh->Yl->Prop)(G:Yl->Prop){α:Type}(m:StateT SortSt nW α)(Q:α->SortSt->Prop)(st:SortSt):Prop:=∀s,G s->kasC M A E m (λa tJ s'=>Q a tJ/\G s') st s
end
end L3
namespace L3
open PySem PySem.Spec PyProof.Rows L2
abbrev nm(f:b9):aj:=⟨kb f⟩
variable{f:b9}
def X0{g:b9}(h:nm f=nm g):f=g:=by have:=congrArg (λs:aj=>s.cps.toList) h;simpa using this
section
variable {K:Yb} {H H':Hp} {ι ι':List Yy} {fs:List (b9×D)} {gs:List (aj×V)}
def gW.mono(e:Ext K H ι H' ι')(h:gW K H ι fs gs):gW K H' ι' fs gs:=⟨h.1,h.2.mono e⟩
def gW.nil:gW K H ι [] []:=⟨rfl,aB.nil⟩
def gW.nil_inv(h:gW K H ι [] gs):gs=[]:=NK.mp h.1
def gW.cons_inv{d:D}(h:gW K H ι ((f,d)::fs) gs):∃v xC,gs=(nm f,v)::xC/\Rep K H ι d v/\gW K H ι fs xC:=by
 cases gs with
 |nil=>cases h.1|cons p xC=>let⟨g,v⟩:=p;let⟨h1,h2⟩:=h;rw[Yw,Yw]at h1 h2;let⟨e1,e2⟩:=lu h1;let⟨v',ws,e,r,q⟩:=h2.cons_inv;let⟨rfl,rfl⟩:=lu e;exact⟨v,xC,by rw[show g=nm f from e1],r,e2,q⟩
def gW.cons{f:b9}{d:D}{v:V}(r:Rep K H ι d v)(h:gW K H ι fs gs):gW K H ι ((f,d)::fs) ((nm f,v)::gs):=⟨by rw[Yw,Yw,h.1],aB.cons r h.2⟩
def gW.length(h:gW K H ι fs gs):B gs=B fs:=by have:=congrArg yN h.1;simpa using this
theorem gW.look:∀{fs:List (b9×D)} {gs:List (aj×V)},gW K H ι fs gs->(fs.lookup f=Yj->gs.lookup (nm f)=Yj)/\∀d,fs.lookup f=O d->∃v,gs.lookup (nm f)=O v/\Rep K H ι d v
 |[],_,h=>by rw[h.nil_inv];exact⟨λ_=>rfl,λd e=>by cases e⟩|(g,x)::fs,_,h=>by
  let⟨v,xC,rfl,r,t⟩:=h.cons_inv;rw[kY,kY];by_cases e:f=g
  .subst e;rw[beq_self_eq_true,beq_self_eq_true];exact⟨λq=>(by cases q),λd q=>(by cases q;exact⟨v,rfl,r⟩)⟩
  .rw[beq_false_of_ne e,beq_false_of_ne λq=>e<|X0 q];exact t.look
theorem gW.put{d:D}{v:V}(r:Rep K H ι d v):∀{fs:List (b9×D)} {gs:List (aj×V)},gW K H ι fs gs->gW K H ι (zA f d fs) (jZ (nm f) v gs)
 |[],_,h=>by rw[h.nil_inv];exact gW.cons r gW.nil|(g,x)::fs,_,h=>by
  let⟨w,xC,rfl,r',t⟩:=h.cons_inv;unfold zA jZ;by_cases e:g=f
  .subst e;rw[c_ J,c_ J];exact gW.cons r t
  .rw[d4 e,d4 λq=>e<|X0 q];exact gW.cons r'<|t.put r
end
structure Cj(K:Yb)(c:b9)(C:Yy):Prop where
 ao:ClsAt K c C
 cls:zb K C
 nz:c.head?≠O 0
variable{C:Yy}
def Cj.same{K:Yb}{c:b9}{C':Yy}(h:Cj K c C)(q:ClsAt K c C'):C'=C:=by have:=q.symm.trans h.ao;cases this;rfl
variable{H:Hp}{fd:lJ}{ι:List Yy}{F:F3}{ps:List aj}
section
variable {X:Cx} {o e:Expr} {es:List Expr} {f g:E3} {gl:d_} {c m:b9} {C:Yy} {fn:aj} {pos pos' apos p:a_} {x:aj}
def Ya{M:b3}{n:Nat}{a:Yy}(kc:Cj X.K c C)(S:aF X.K H ι M)(ha:ι[n]?=O a){fs:List (b9×D)}(hn:M[n]?=O (.ins c fs)):∃dx gs,H a=O (.ins C dx gs)/\gW X.K H ι fs gs:=by
 rcases S.obj n _ a hn ha with⟨C',dx,gs,q,ca,fr⟩|⟨_,_,_,z,_⟩
 .rw[kc.same ca.1]at q;exact⟨dx,gs,q,fr⟩
 .exact k9 z kc.nz
def xM(kc:Cj X.K c C)(nf:vh X.K C (nm m))(he:C3 X e f)(hf:fn=nm m:=by decide +kernel)(hb:o9 e fn X.env (aO e X.env)=aO e X.env:=by rfl):C3 X (.Attribute e fn pos) (e1 (lC c m) f):=by
 subst hf;refine(Zxx he hb).imp λσ H Q ak=>?_;let⟨ι,M,env,S,E,h⟩:=ak;let⟨d,M1,e1,hh⟩:=au.bind h;refine⟨ι,M,env,S,E,?_⟩;rw[e1];intro v H1 ι1 x1 S1 r1;cases d with
 | ref n=>
  simp only[TR]at hh;cases hn:M1[n]? with
  |none=>simp only[hn]at hh;exact hh.elim|some ob=>
   cases ob with
   | ins c' fs=>
    simp only[hn]at hh;split at hh
    .rename_i ec;subst ec;let⟨a,ha,rfl⟩:=r1.fG;let⟨dx,gs,q,fr⟩:=Ya kc S1 ha hn;split at hh
     .rename_i d hl;let⟨w,lw,lV⟩:=(fr.look (f:=m)).2 d hl;exact⟨a,C,dx,gs,w,rfl,q,kc.cls,nf,lw,hh w H1 ι1 x1 S1 lV⟩
     .exact hh.elim
    .exact hh.elim
   |_=>simp only[hn]at hh;exact hh.elim
 |_=>exact hh.elim
def YA(kc:Cj X.K c C)(nf:vh X.K C (nm m))(ho:C3 X o f)(hv:C3 X e g)(hf:fn=nm m:=by decide +kernel)(hs:tG e (O<|.Attribute o fn pos') pos.line X.env=pure false:=by rfl):CS X (.Assign [.Attribute o fn pos'] e pos) (Jx c m f g):=by
 subst hf;refine(Zww ho hv hs).imp λD' σ H ak=>?_;let⟨ι,M,env,S,E,hh⟩:=ak;have hh:=WI E hh;let⟨d,M1,e1,hh⟩:=au.bind hh;let⟨b,M2,e2,hh⟩:=au.bind hh;refine⟨ι,M,env,S,E,?_⟩;rw[e1];intro y H1 ι1 x1 S1 r1;refine⟨ι1,M1,env,S1,E.mono x1,?_⟩;rw[e2];intro w H2 ι2 x2 S2 r2;cases b with
 | ref n=>
  simp only[W6]at hh;cases hn:M2[n]? with
  |none=>simp only[hn]at hh;exact hh.elim|some ob=>
   cases ob with
   | ins c' fs=>
    simp only[hn]at hh;split at hh
    .rename_i ec;let⟨ec,lf⟩:=ec;subst ec;let⟨a,ha,rfl⟩:=r2.fG;let⟨dx,gs,q,fr⟩:=Ya kc S2 ha hn;have l0:Loose H2 a:=.inr<|.inr<|.inr ⟨C,dx,gs,q⟩;have x3:Ext X.K H2 ι2 (upd H2 a<|.ins C dx<|jZ (nm m) y gs) ι2:=l0.ext;have S3:aF X.K (upd H2 a<|.ins C dx<|jZ (nm m) y gs) ι2 (M2.set n<|.ins c'<|zA m d fs):=S2.put l0 ha<|.inl ⟨C,dx,_,iw,⟨kc.ao,kc.nz⟩,(fr.put<|r1.mono x2).mono x3⟩;exact⟨a,C,dx,gs,rfl,q,kc.cls,nf,by rwa[fr.length],hh .Z _ _ ((x1.trans x2).trans x3) S3 Rep.Z⟩
    .exact hh.elim
   |_=>simp only[hn]at hh;exact hh.elim
 |_=>exact hh.elim
def YK(P:Y9)(w:aQ)(K:Yb)(mg:aj->Option Yh)(base:aH)(k:Nat)(C:Yy)(m:aj)(ps:List aj)(F:F3):Prop:=(∀ds M,B ds≠B ps->F ds M= .bad)/\∃f fd,Meth K C m f/\Binds K fd ps []/\h_ P w K mg base m_ k f fd ps (vI K (B ps) F)
def YK.mono{P:Y9}{w:aQ}{K:Yb}{mg:aj->Option Yh}{base:aH}{C:Yy}{j k:Nat}{x:aj}(h:YK P w K mg base j C x ps F)(l:j<=k):YK P w K mg base k C x ps F:=let⟨n,f,fd,a,b,d⟩:=h;⟨n,f,fd,a,b,d.mono l⟩
def Zxp{k:Nat}{fa:Yy}(ao:ClsAt X.K c C/\c.head?≠O 0)(abw:Mk X.K C fa)(hF:∀ds M,B ds≠B ps->F ds M= .bad)(ok:h_ X.prog X.w X.K X.mg X.base m_ k fa fd ps (vI X.K (B ps) F))(bi:Binds X.K fd ps [])(hm:X.mg x=O (.ref C))(hr:dM (k+1) X.A)(ha:CA X (e::es) gl)(hg:Gl X x:=by rfl)(sd:(x==("__debug__":aj))=false:=by decide)(he:Yv (e::es) X.env=(false,aO e X.env)::Yv es X.env:=by rfl)(qv:(b8 pos<|Yv es X.env).any (·.1)=false:=by rfl):C3 X (.Call (.Name x p) (e::es) [] pos) (BX c F gl):=by
 refine(ZuS abw ok hr hg hm bi .nil So ha sd he qv).imp λσ H Q ak=>?_;let⟨ι,M,env,S,E,h⟩:=ak;let⟨ds,M1,e1,h⟩:=au.bind h;refine⟨ι,M,env,S,E,?_⟩;rw[e1];intro vs H1 ι1 x1 S1 r1 y dx hy hd ne;have y2:upd H1 dx (.own y) y=Yj:=by rwa[bH<|cu ne]
 have x2:Ext X.K H1 ι1 (upd H1 dx<|.own y) ι1:=Loose.ext<|.inl hd;have S2:aF X.K (upd H1 dx<|.own y) ι1 M1:=S1.other (.inl hd)<|S1.fresh hd;have x3:Ext X.K (upd H1 dx<|.own y) ι1 (upd (upd H1 dx<|.own y) y<|.ins C dx []) (ι1++[y]):=Loose.Hi<|.inl y2;have S3:aF X.K (upd (upd H1 dx<|.own y) y<|.ins C dx []) (ι1++[y]) (M1++[.ins c []]):=S2.new y2<|.inl ⟨C,dx,[],iw,ao,gW.nil⟩;have AO:(ι1++[y])[B M1]?=O y:=by rw[<-S1.len];simp
 have rr:Rep X.K (upd (upd H1 dx<|.own y) y<|.ins C dx []) (ι1++[y]) (.ref<|B M1) (.ref y):=Rep.ref AO;cases q:F (.ref (B M1)::ds) (M1++[.ins c []])with
 |bad=>simp only[q]at h;cases h|exc _ _=>simp only[q]at h;cases h|ok d M2=>
  have hl:(D.ref (B M1)::ds).length=B ps:=by refine OD λz=>?_;rw[hF _ _ z]at q;cases q
  refine⟨ι1++[y],M1++[.ins c []],.ref (B M1)::ds,S3,by rw[iD];exact aB.cons rr<|(r1.mono x2).mono x3,hl,?_⟩;rw[q];simp only[q]at h;cases d with
  |Z=>intro v H4 ι4 x4 S4 r4;exact⟨r4.kh,h _ H4 ι4 (((x1.trans x2).trans x3).trans x4) S4<|rr.mono x4⟩|_=>cases h
end
def YE(s:Ydv):List Ydv:=match s with
 | .ClassDef _ _ _ b _ _ _ _ _ _ _=>b|_=>[]
def QD(K:Yb)(C:Yy)(qual:aj)(st:Ydv)(ps:List aj):Prop:=∃f fd,rG K "__init__" qual st f fd/\Mk K C f/\Binds K fd ps []
def Ck(P:Y9)(w:aQ)(K:Yb)(mg:aj->Option Yh)(base:aH)(k:Nat)(C:Yy)(ps:List aj)(F:F3):Prop:=(∀ds M,B ds≠B ps->F ds M= .bad)/\∃f fd,Mk K C f/\Binds K fd ps []/\h_ P w K mg base m_ k f fd ps (vI K (B ps) F)
section
variable {P:Y9} {w:aQ} {K:Yb} {mg:aj->Option Yh} {base:aH} {C f:Yy} {m qual:aj} {st:Ydv} {N ps:List aj} {k:Nat} {body:S3} {oc:Yh} {od an:Option Yy} {sM:Array (Option Yh)} {dV kV doc pm j0 ct:Yh}
def ZuC(mk:Mx K C=true)(kc:sZ K (.ref C)=true)(a:fJ K (.ref C) "__init__" =O (O<|.ref f))(i:Mz K (.ref f)=true)(l:K.lookup f=O ⟨oc,od,.func<|q8 "__init__" qual (oA st) (jz st) (bJ st) dV kV doc pm an j0 ct,sM⟩)(c:Ea K j0 qual=true)(kp:sZ K (.ref f)=true)(b:Binds K (q8 "__init__" qual (oA st) (jz st) (bJ st) dV kV doc pm an j0 ct) ps []):QD K C qual st ps:=⟨f,_,⟨⟨oc,od,dV,kV,doc,pm,an,j0,ct,sM,rfl,l,c⟩,kp⟩,⟨mk,a,i,kc⟩,b⟩
def Ck.of(d:QD K C qual st ps)(S:dN N ps (bJ st))(hb:∀(f:Yy) (j0:Yh) (A:bG) (outer:List dz) (s:Yl) (H:Hp) (E:XK),dM k (A.deeper<|nZ qual (bJ st) (c6 s) f j0)->pU (qI m_ P w K mg base N qual (bJ st) f j0 A outer s H E).jP (jz st) body):
  Ck P w K mg base (k+1) C ps (cR (B ps) (B N) body):=by
 let⟨f,fd,F,mk,bi⟩:=d;exact⟨λds M h=>d4 h,f,fd,mk,bi,Xf F S<|hb f⟩
end
def YI{X:Cx}{e:Expr}{es:List Expr}{gl:d_}{c:b9}{pos p:a_}{x:aj}{k:Nat}(kc:Cj X.K c C)(G:Ck X.prog X.w X.K X.mg X.base k C ps F)(hm:X.mg x=O (.ref C))(hr:dM (k+1) X.A)(ha:CA X (e::es) gl)(hg:Gl X x:=by rfl)(sd:(x==("__debug__":aj))=false:=by decide)(he:Yv (e::es) X.env=(false,aO e X.env)::Yv es X.env:=by rfl)(qv:(b8 pos<|Yv es X.env).any (·.1)=false:=by rfl):C3 X (.Call (.Name x p) (e::es) [] pos) (BX c F gl):=by let⟨hF,f,fd,mk,bi,ok⟩:=G;exact Zxp ⟨kc.ao,kc.nz⟩ mk hF ok bi hm hr ha hg sd he qv
def YN{P:Y9}{w:aQ}{h:aH}{e:Yy}{dd:Option Yy}(x:BZ e C dd h):d9 P w H h e (vH e C dd):=⟨x,(let⟨o,_,q,_⟩:=x;⟨o,q⟩),λ_ _ z k=>let⟨o,vs,a,b,c⟩:=z;⟨o,vs,k o a,b,c⟩⟩
def Wl{P:Y9}{w:aQ}{h:aH}{a:Yy}{o:HO}(x:d9 P w H h a o):∃u,h.get? a=O u:=by
 cases o with
 |L xs=>let⟨_,_,_,_,e⟩:=x;exact⟨_,e⟩|U xs=>let⟨_,_,_,o,e,_⟩:=x;exact⟨o,e⟩|dK d5=>let⟨_,_,_,_,o,_,_,e,_⟩:=x;exact⟨o,e⟩|dT d5=>let⟨_,_,_,_,o,_,_,e,_⟩:=x;exact⟨o,e⟩
 |set S n=>let⟨o,_,_,_,e,_⟩:=x;exact⟨o,e⟩|ins C dx fs=>let⟨_,_,_,e,_⟩:=x;exact⟨_,e⟩|own y=>exact x|xd fs=>let⟨_,⟨o,_,_,e,_⟩,_⟩:=x;exact⟨o,e⟩
 |Pb lo hi=>let⟨_,_,_,e⟩:=x;exact⟨_,e⟩|cY ob u=>let⟨e,_⟩:=x;exact⟨_,e⟩|yZ ps=>exact⟨_,x⟩|met f y=>exact⟨_,x⟩
 |ext φ=>exact x.2.1
def Dct(e:Yy)(dd:Option Yy)(h:aH):Prop:=∃o,h.get? e=O o/\o.dict=dd
def vK(i8:aH)(l:List dz)(e C:Yy)(dd:Option Yy)(a0:Yh)(h:aH):Prop:=i8.StaysIn h/\i8.get? e=Yj/\h.FunFrames i8 l/\Dct e dd h/\∃fl,h.TracedAtW i8 e (.ref C) a0 fl
def vL(i8:aH)(l:List dz)(e C:Yy)(dd:Option Yy)(h:aH):Prop:=∃a0,vK i8 l e C dd a0 h\/(i8.StaysIn h/\i8.get? e=Yj/\h.FunFrames i8 l/\∃oe vs,h.get? e=O oe/\oe.cls= .ref C/\oe.data= .fields vs/\vs[0]?=O a0/\vs[1]?=O .none/\oe.dict=dd)
section
variable {i8 h h':aH} {l:List dz} {e C:Yy} {dd:Option Yy}
def vK.Gf{a0:Yh}(f:vK i8 l e C dd a0 h):BZ e C dd h:=by let⟨_,_,_,⟨o',a',d'⟩,_,o,vs,_,_,_,a,b,c,_⟩:=f;rw[a]at a';cases a';exact⟨_,vs,a,b.1,c,d'⟩
def vK.tail{a0:Yh}{env:dz}(f:vK i8 (env::l) e C dd a0 h):vK i8 l e C dd a0 h:=let⟨a,b,⟨_,_,c⟩,d⟩:=f;⟨a,b,c,d⟩
def vL.stays(f:vL i8 l e C dd h):i8.StaysIn h:=by
 obtain⟨a0,f|f⟩:=f
 .exact f.1
 .exact f.1
def vL.Gf(f:vL i8 l e C dd h):BZ e C dd h:=by
 obtain⟨a0,f|⟨_,_,_,oe,vs,a,b,c,_,_,d⟩⟩:=f
 .exact f.Gf
 .exact⟨oe,vs,a,b,c,d⟩
end
section
variable {M:Model} {A:bG} {E:Yh->Yl->Prop} {s:Yl} {i8:aH} {env:dz} {outer l:List dz} {L e C:Yy} {dd:Option Yy} {Q:Unit->Yl->Prop}
def ZsX(f:Array Yh->Array Yh)(o:aK):(Be f o).dict=o.dict:=by let⟨c,d,da,sl⟩:=o;cases da<;>rfl
def YO{oe:aK}{vs:Array Yh}{head a0:Yh}{xD:Bool}(yY:A.frames=O (env::outer))(hl:s.heap.FunFrames i8 (env::outer))(hf:env.frame=O L)(he:s.heap.get? e=O oe)(hkb:i8.StaysIn s.heap)(YR:i8.get? e=Yj)(hc:oe.cls= .ref C)(hd:oe.data= .fields vs)(sh:1<vs.size)(h0:vs[0]?=O a0)(AD:oe.dict=dd)(hQ:∀h',vK i8 (env::outer) e C dd a0 h'->s.heap.UpToSlots h'->Q () {s with heap:=h'}):
  aq M A (do let a ←frameOf env;let pl ←entryPlaceOf L xD;let b ←OB head a .none (nU L) .none pl;setField (.ref e) 1 b) Q E s:=by
 have AdW:e∉(env::outer).filterMap (·.frame):=λz=>by let⟨_,o,q,nf⟩:=hl.mem z;rw[he]at q;cases q;exact nf vs hd
 refine Yc<|wpAny_frameOf_fun yY hl hf λk only=>Yc<|wpAny_entryPlaceOf λpl qv=>?_;unfold OB newFields;refine Yc<|uT ?_<|qv.sizeOk5 _ _ _ _ _;have ke:k.get? e=O oe:=(only.2.1 e AdW).trans he;have kB:i8.StaysIn k:=λb o q=>(only.2.1 b λz=>by rw[(hl.mem z).1]at q;cases q).trans<|hkb b o q;generalize hT:({cls:=.type "traceback",dict:=Yj,data:=.fields ([head,.ref L,.none,nU L,.none]++(if pl.isEmpty then Yq 6 Value.none else pl)).toArray}:aK)=tb;have YU:=Yn (h:=k) tb ke;have ne:k.objs.size≠e:=Bb<|Y3 ke;have tbd:tb.data= .fields ([head,.ref L,.none,nU L,.none]++(if pl.isEmpty then Yq 6 Value.none else pl)).toArray:=by rw[<-hT]
 have fr:tb.isFreed=false:=by rw[<-hT];rfl
 have d3:=Ip hd (·.setIfInBounds 1 (Value.ref k.objs.size));have e3:=yP (Be (·.setIfInBounds 1 (Value.ref k.objs.size))) YU<|VD d3;have t3:=(pF (k.push tb) (Be (·.setIfInBounds 1 (Value.ref k.objs.size)))<|cu ne).trans<|Y6 k fr;have rf:∀b o,b≠e->k.get? b=O o->((k.push tb).update e<|Be (·.setIfInBounds 1 (Value.ref k.objs.size))).get? b=O o:=λb o hb q=>(pF _ _<|cu hb).trans<|Yn _ q;have nr:∀b o,s.heap.get? b=O o->(∀vs,o.data≠ .fields vs)->b≠e:=λb o q nf z=>by rw[z,he]at q;cases q;exact nf vs hd
 refine Hv YU hd sh (hQ _ ⟨λb o q=>rf b o (λz=>by rw[z,YR]at q;cases q)<|kB b o q,YR,hl.of_keeps λb o q nf=>?_,⟨_,e3,?_⟩,nU L,_,_,k.objs.size,_,_,e3,⟨(NM _ _).trans hc,?_⟩,d3,?_,kB.fresh,ne,t3,tbd,?_⟩ λb o q nf=>?_)
 .let⟨sl,z⟩:=only.2.2 b o q;exact⟨_,rf b _ (nr b o q nf) z,rfl⟩
 .exact(ZsX _ _).trans AD
 .rwa[MR aaA]
 .simp[sh]
 .first
   |(simp;done)
   |(rcases qv with rfl|⟨_,_,_,_,_,_,_,rfl⟩<;>simp)
 .let⟨sl,z⟩:=only.2.2 b o q;exact⟨sl,rf b _ (nr b o q nf) z⟩
def YV(yY:A.frames=O (env::outer))(hf:env.frame=O L)(f:vL i8 (env::outer) e C dd s.heap)(hQ:∀h' a0,vK i8 (env::outer) e C dd a0 h'->s.heap.UpToSlots h'->Q () {s with heap:=h'}):aq M A (HD (.ref e) env) Q E s:=by
 obtain⟨a0,f|⟨f1,f2,f3,oe,vs,he,hc,hd,h0,h1,AD⟩⟩:=f
 .have f0:=f;let⟨f1,f2,f3,dc,fl,ht⟩:=f;by_cases q:fl=nU L
  .rw[q]at ht;exact wpAny_noteFrame_againW hf ht<|hQ s.heap a0 f0<|Heap.UpToSlots.refl _
  .let⟨oe,vs,T,abx,ts,he,⟨vF,h0⟩,hd,h1,Cc,Bz,hT,y0,h3⟩:=ht;let⟨o',sx,AD⟩:=dc;rw[he]at sx;cases sx;unfold HD;simp only[hf];refine Yc<|o_ he hd h1 ?_;rw[c_<|show(Value.ref T !=Value.none)=true from by simp];refine Yc<|o_ hT y0 h3 ?_;rw[d4 (show¬((fl==nU L)=true)from by simpa using q)];refine Yc<|Hv hT y0 (Ov.mp h3).1 ?_;have other:∀b,b≠T->(s.heap.update T<|Be (·.setIfInBounds 3 Value.none)).get? b=s.heap.get? b:=λb hb=>pF _ _<|cu hb;have nr:∀b o,s.heap.get? b=O o->(∀vs,o.data≠ .fields vs)->b≠T:=λb o hb vn q=>by
    rw[q,hT]at hb;injection hb with hb;subst hb;exact vn ts y0
   exact YO yY (f3.of_keeps λb o hb vn=>⟨o,(other b<|nr b o hb vn).trans hb,rfl⟩) hf ((other e<|cu Bz).trans he)
    (λb o AF=>(other b λq=>by rw[q,Cc]at AF;cases AF).trans<|f1 b o AF) f2 vF hd (Ov.mp h1).1 h0 AD λh' Gg sl=>hQ h' a0 Gg λb o hb vn=>sl b o ((other b<|nr b o hb vn).trans hb) vn
 .unfold HD;simp only[hf];refine Yc<|o_ he hd h1 ?_;rw[d4 aaA];exact YO yY f3 hf he f1 f2 hc hd (Ov.mp h1).1 h0 AD λh' x y=>hQ h' a0 x y
def YL{a0:Yh}{fo:Option Yy}(f:vK i8 l e C dd a0 s.heap)(hQ:∀h',vK i8 l e C dd a0 h'->s.heap.UpToSlots h'->Q () {s with heap:=h'}):aq M A (setFlight (.ref e) fo) Q E s:=by
 let⟨f1,f2,f3,⟨o',sx,AD⟩,fl,oe,vs,T,abx,ts,he,vF,hd,h1,Cc,Bz,hT,y0,h3⟩:=f;rw[he]at sx;cases sx;have sh:3<ts.size:=(Ov.mp h3).1;unfold setFlight;refine Yc<|o_ he hd h1 ?_;rw[c_<|show(Value.ref T !=Value.none)=true from by simp];generalize hv:(fo.elim Value.none λf=>nU f)=fv;have other:∀b,b≠T->(s.heap.update T<|Be (·.setIfInBounds 3 fv)).get? b=s.heap.get? b:=λb hb=>pF _ _<|cu hb;have nr:∀b o,s.heap.get? b=O o->(∀vs,o.data≠ .fields vs)->b≠T:=λb o hb vn q=>by rw[q,hT]at hb;injection hb with hb;subst hb;exact vn ts y0
 exact Hv hT y0 sh (hQ _ ⟨λb o AF=>(other b λq=>by rw[q,Cc]at AF;cases AF).trans<|f1 b o AF,f2,f3.of_keeps λb o hb vn=>⟨o,(other b<|nr b o hb vn).trans hb,rfl⟩,⟨_,(other e<|cu Bz).trans he,AD⟩,fv,_,vs,T,_,_,(other e<|cu Bz).trans he,vF,hd,h1,Cc,Bz,
  yP _ hT (VD<|Ip y0 _),Ip y0 _,by simp[sh]⟩ λb o hb vn=>⟨o.slots,(other b<|nr b o hb vn).trans hb⟩)
def ZtX(yY:A.frames=O (env::outer))(hf:env.frame=O L)(f:vL i8 (env::outer) e C dd s.heap)(hQ:∀h',vL i8 outer e C dd h'->s.heap.UpToSlots h'->Q () {s with heap:=h'}):aq M A (Nq env<|.ref e) Q E s:=by unfold Nq;exact Yc<|YV yY hf f λh1 a0 x y=>YL x λh' z y'=>hQ h' ⟨a0,.inl z.tail⟩<|y.trans y'
end
structure Cm(i8:aH)(fs ex:List Yy)(H₀:Hp)(h₀:aH)(H:Hp)(e:Yy):Prop where
 Bh:∀b,H b≠Yj->b≠e->∃o,i8.get? b=O o
 old:∀b o,h₀.get? b=O o->H₀ b=Yj->b∉fs->b∉ex->i8.get? b=O o
 there:∀b o,h₀.get? b=O o->b∉fs->b∉ex->∃o',i8.get? b=O o'
section
variable {i8 h h' h₀:aH} {fs ex:List Yy} {H H₀:Hp} {e C:Yy} {dd:Option Yy} {P:Y9} {w:aQ}
def Cm.i6(c:Cm i8 fs ex H₀ h₀ H e)(ok:gP P w H h)(he:H e=O (vH e C dd))(s1:i8.StaysIn h)(s2:i8.StaysIn h')(x:BZ e C dd h'):gP P w H h':=λb u q=>by
 by_cases hb:b=e
 .subst hb;rw[he]at q;cases q;exact YN x
 .refine(ok b u q).rf (λd v hd z=>?_) (λ_ z=>z) λ_ _ z=>z;have vj:H d≠Yj/\d≠e:=by
   rcases hd with rfl|hd
   .exact⟨by rw[q];simp,hb⟩
   .exact⟨by rw[hd];simp,by rintro rfl;rw[he]at hd;cases hd⟩
  let⟨o,ho⟩:=c.Bh d vj.1 vj.2;have:=(s1 d o ho).symm.trans z;cases this;exact s2 d _ ho
def Cm.un(c:Cm i8 fs ex H₀ h₀ H e)(u:Un fs ex H₀ H h₀ h)(s2:i8.StaysIn h')(sl:h.UpToSlots h')(nf:∀b∈fs,H₀ b=Yj/\∀o,h₀.get? b=O o->∀vs,o.data≠ .fields vs):Un fs ex H₀ H h₀ h' where
 keep:=λb o q n hb hx=>s2 b o<|c.old b o q n hb hx
 slot:=λb o q n hb hx=>by let⟨s,e1⟩:=u.slot b o q n hb hx;let⟨s',e2⟩:=sl b _ e1<|(nf b hb).2 o q;exact⟨s',e2⟩
 free:=u.free
 there:=λb o q hx=>by
  by_cases hb:b∈fs
  .let⟨s,e1⟩:=u.slot b o q (nf b hb).1 hb hx;let⟨s',e2⟩:=sl b _ e1<|(nf b hb).2 o q;exact⟨_,e2⟩
  .exact let⟨o',z⟩:=c.there b o q hb hx;⟨o',s2 b o' z⟩
 rg:=u.rg
 mQ:=u.mQ
 nR:=u.nR
end
def rY(P:Y9)(w:aQ):qH:=λouter H s E ev s'=>∃e C dd H' i8,ev= .ref e/\s'.os=s.os/\u9 s'.gens/\Un (sR outer) [] H H' s.heap s'.heap/\gP P w H' s'.heap/\H' e=O (vH e C dd)/\
 vL i8 outer e C dd s'.heap/\Cm i8 (sR outer) [] H s.heap H' e/\E (.ref C) (O e) H'
def YM(X:Cx)(e C:Yy)(H':Hp)(s':Yl):Prop:=∃dd,H' e=O (vH e C dd)/\∃i8,vL i8 X.stack e C dd s'.heap/\Cm i8 X.fs X.ex X.H₀ X.s₀.heap H' e/\∀p∈X.pn,i8.get? p.1=O p.2
def XW(X:Cx)(σ:St)(e C:Yy)(H':Hp):Prop:=∀b4 s',Inv X b4 σ H' s'->YM X e C H' s'->X.xe (.ref e) s'
def EX(X:Cx)(σ:St):XK:=λcv oe H'=>∀e C,cv= .ref C->oe=O e->XW X σ e C H'
section
variable {X:Cx} {b4:List (Yy×aK)} {σ:St} {H:Hp} {s s':Yl}
def YQ(I:Inv X b4 σ H s){b:Yy}{o:aK}(q:X.s₀.heap.get? b=O o)(hb:b∉X.fs):b∉sR X.stack:=λz=>by
 rcases Yo.mp (I.DW b z)with e|e
 .exact k9 (Y5 (Y3 q) I.ok.above) (by rw[e];exact wM _)
 .exact hb e
def YY(I:Inv X b4 σ H s):∀b∈X.fs,X.H₀ b=Yj/\∀o,X.s₀.heap.get? b=O o->∀vs,o.data≠ .fields vs:=λb hb=>⟨I.ok.tZ b hb,λo q=>by let⟨_,o',ho,hd⟩:=I.ok.mR.mem hb;rw[ho]at q;cases q;exact hd⟩
def Zz7(I:Inv X b4 σ H s){E:XK}{ev:Yh}(h:rY X.prog X.w X.stack H s E ev s'):∃e C H',ev= .ref e/\Inv X b4 σ H' s'/\YM X e C H' s'/\E (.ref C) (O e) H':=by
 let⟨e,C,dd,H',i8,rfl,os,bare,un,i6,he,fl,cv,hE⟩:=h;refine⟨e,C,H',rfl,I.vS os un i6 bare nofun,⟨dd,he,i8,fl,⟨cv.Bh,λb o q n hb hx=>?_,λb o q hb hx=>?_⟩,λp hp=>?_⟩,hE⟩
 .exact cv.old b o (I.base.keep b o q n hb hx) (I.base.free b o q n hx) (YQ I q hb) nofun
 .let⟨o1,q1⟩:=I.base.there b o q hx;exact cv.there b o1 q1 (YQ I q hb) nofun
 .let⟨e,n,ne,nf,_⟩:=I.pin p<|pB _ hp;exact cv.old p.1 p.2 e n (λz=>(Yo.mp<|I.DW p.1 z).elim ne nf) nofun
end
def zM(K:Yb)(H:Hp)(ι:List Yy)(Q:VK)(E:XK)(r:R3 D):Prop:=match r with
 | .ok d M'=>∀v H' ι',Ext K H ι H' ι'->aF K H' ι' M'->Rep K H' ι' d v->Q v H'|.exc x M'=>∀e C H' ι',Ext K H ι H' ι'->aF K H' ι' M'->Rep K H' ι' x.arg (.ref e)->ClsAt K x.cls C->E (.ref C) (O e) H'|.bad=>False
def zM.up{K:Yb}{H1:Hp}{ι1:List Yy}{Q:VK}{E:XK}{r:R3 D}(e:Ext K H ι H1 ι1)(h:zM K H ι Q E r):zM K H1 ι1 Q E r:=by
 cases r with
 |ok d M=>exactλv H' ι' e' S r=>h v H' ι' (e.trans e') S r|exc x M=>exactλa C H' ι' e' S r=>h a C H' ι' (e.trans e') S r|bad=>exact h
def au.x{K:Yb}{H:Hp}{ι:List Yy}{Q:VK}{E:XK}{r:R3 D}(h:au K H ι Q r):zM K H ι Q E r:=by
 cases r with
 |ok d M=>exact h|exc x M=>cases h|bad=>exact h
def YS(K:Yb)(n:Nat)(F:F3):Sp:=λvs H Q E=>∃ι M ds,aF K H ι M/\aB K H ι ds vs/\ds.length=n/\zM K H ι Q E (F ds M)
def AeN(X:Cx)(f:E3):TE:=λσ H Q=>∃ι M env,aF X.K H ι M/\bT X.K H ι env σ/\zM X.K H ι Q (EX X σ) (f env M)
def uq(X:Cx)(any:Bool)(σ:St)(H:Hp)(ι:List Yy)(E:Ends)(r:O3):Prop:=match r with
 | .nx env' M'=>∀σ' H' ι',Ext X.K H ι H' ι'->aF X.K H' ι' M'->bT X.K H' ι' env' σ'->E.nx σ' H'|.bk env' M'=>∀σ' H' ι',Ext X.K H ι H' ι'->aF X.K H' ι' M'->bT X.K H' ι' env' σ'->E.bk σ' H'|.ct env' M'=>∀σ' H' ι',Ext X.K H ι H' ι'->aF X.K H' ι' M'->bT X.K H' ι' env' σ'->E.ct σ' H'|.rt d M'=>∀v H' ι',Ext X.K H ι H' ι'->aF X.K H' ι' M'->Rep X.K H' ι' d v->E.rt v H'
 | .exc x M'=>∀σ' e C H' ι',(any=false->σ'=σ)->Ext X.K H ι H' ι'->aF X.K H' ι' M'->Rep X.K H' ι' x.arg (.ref e)->ClsAt X.K x.cls C->XW X σ' e C H'|.bad=>False
def Zl(X:Cx)(any:Bool)(f:S3):TS:=λE σ H=>∃ι M env,aF X.K H ι M/\bT X.K H ι env σ/\uq X any σ H ι E (f env M)
def Gh(X:Cx)(e:Expr)(f:E3):Prop:=PE X e<|AeN X f
def vM(X:Cx)(any:Bool)(st:Ydv)(f:S3):Prop:=PS X st<|Zl X any f
def vN(X:Cx)(any:Bool)(st:List Ydv)(f:S3):Prop:=lz X st<|Zl X any f
variable{σ:St}
def uq.up{X:Cx}{any:Bool}{σ1:St}{H1:Hp}{ι1:List Yy}{Q:Ends}{r:O3}(e:Ext X.K H ι H1 ι1)(hs:any=false->σ1=σ)(h:uq X any σ H ι Q r):uq X any σ1 H1 ι1 Q r:=by
 cases r with
 |nx d M=>exactλv H' ι' e' S r=>h v H' ι' (e.trans e') S r|bk d M=>exactλv H' ι' e' S r=>h v H' ι' (e.trans e') S r|ct d M=>exactλv H' ι' e' S r=>h v H' ι' (e.trans e') S r|rt d M=>exactλv H' ι' e' S r=>h v H' ι' (e.trans e') S r
 |exc x M=>exactλσ' a C H' ι' z e' S r=>h σ' a C H' ι' (λq=>(z q).trans<|hs q) (e.trans e') S r|bad=>exact h
def Zp{f:S3}{X:Cx}{any:Bool}{env:bO}{M:b3}{E:Ends}(h:uq X any σ H ι E (fK f env M)):qM X.K H ι E (f env M):=by
 unfold fK at h;cases q:f env M with
 |exc x M1=>rw[q]at h;cases h|bad=>rw[q]at h;cases h|nx e M1=>rwa[q]at h|rt e M1=>rwa[q]at h
 |bk e M1=>rwa[q]at h|ct e M1=>rwa[q]at h
section
variable {X:Cx} {any:Bool} {st:Ydv} {ui:List Ydv} {e c1:Expr} {f:E3} {u w:S3} {pos:a_}
def vO(h:CS X.jP st u):vM X any st (fK u):=λb4 s σ H D I z=>by let⟨ι,M,env,S,E,hf⟩:=z;exact gD (h b4 s σ H D (I.rh _) ⟨ι,M,env,S,E,Zp (X:=X) hf⟩) (λ_ _ q=>q.qp) λ_ _ z=>fZ z
def JV(h:pU X.jP ui u):vN X any ui (fK u):=λb4 s σ H D I z=>by let⟨ι,M,env,S,E,hf⟩:=z;exact gD (h b4 s σ H D (I.rh _) ⟨ι,M,env,S,E,Zp (X:=X) hf⟩) (λ_ _ q=>q.qp) λ_ _ z=>fZ z
def vP(h:vM X any st u):vN X any [st] u:=Wb h
def qR(h1:vM X true st u)(h2:vN X true ui w):vN X true (st::ui) (Zt u w):=(Wa h1 h2).imp λD σ H ak=>by
 let⟨ι,M,env,S,E,h⟩:=ak;refine⟨ι,M,env,S,E,?_⟩;unfold Zt at h;cases q:u env M with
 |nx e M1=>rw[q]at h;exactλσ' H' ι' x S' E'=>⟨ι',M1,e,S',E',uq.up x nofun h⟩|rt e M1=>rwa[q]at h|bk e M1=>rwa[q]at h|ct e M1=>rwa[q]at h
 |exc x M1=>rwa[q]at h|bad=>rwa[q]at h
def JW{x y:List Ydv}(hc:CT X.jP c1 f)(ha:vN X any x u)(hb:vN X any y w):vM X any (.If c1 x y pos) (aG (pR f) u w):=(Pt (PT.jP hc) ha hb).imp λD σ H ak=>by
 let⟨ι,M,env,S,E,h⟩:=ak;refine⟨ι,M,env,S,E,?_⟩;unfold aG pR at h;cases q:f env M with
 | ok d M1=>
  rw[q]at h;cases d with
  |bl k=>
   intro H1 ι1 x1 S1;cases k with
   |true=>rw[c_ J];exact⟨ι1,M1,env,S1,E.mono x1,uq.up x1 (λ_=>rfl) h⟩|false=>rw[d4 aaA];exact⟨ι1,M1,env,S1,E.mono x1,uq.up x1 (λ_=>rfl) h⟩
  |_=>cases h
 |exc x M1=>rw[q]at h;cases h|bad=>rw[q]at h;cases h
def ZuW(h:Gh X e f):vM X any (.Return (O e) pos) (aM f):=(Pp h).imp λD σ H ak=>by
 let⟨ι,M,env,S,E,h⟩:=ak;refine⟨ι,M,env,S,E,?_⟩;unfold aM at h;cases q:f env M with
 |ok d M1=>rwa[q]at h|exc x M1=>rw[q]at h;exactλa C H' ι' x1 S1 r1 c1 a' C' e1 e2=>by cases e1;cases e2;exact h σ a C H' ι' (λ_=>rfl) x1 S1 r1 c1|bad=>rw[q]at h;cases h
def Zsz(h:Gh X e f)(hs:tG e Yj pos.line X.env=pure false:=by rfl):vM X any (.Expr e pos) (bC f):=(Wc h hs).imp λD σ H ak=>by
 let⟨ι,M,env,S,E,h⟩:=ak;refine⟨ι,M,env,S,E,?_⟩;unfold bC at h;cases q:f env M with
 |ok d M1=>rw[q]at h;exactλv H1 ι1 x1 S1 r1=>h σ H1 ι1 x1 S1 (E.mono x1)|exc x M1=>rw[q]at h;exactλa C H' ι' x1 S1 r1 c1 a' C' e1 e2=>by cases e1;cases e2;exact h σ a C H' ι' (λ_=>rfl) x1 S1 r1 c1|bad=>rw[q]at h;cases h
def Zuo(i:Nat){x:aj}{pos':a_}(hN:X.N.Nodup)(he:Gh X e f)(hi:X.N[i]?=O x:=by rfl)(hx:Loc X.env.scope x:=by first|exact Or.inl rfl|exact Or.inr J)(hs:tG e (O (.Name x pos')) pos.line X.env=pure false:=by rfl)(hf:X.fn x=true\/X.env.scope.names.lookup x=O .local:=by first|exact .inl rfl|exact .inr J):vM X any (.Assign [.Name x pos'] e pos) (aC i f):=(PM hN hi hx he hs hf).imp λD σ H ak=>by
 let⟨ι,M,env,S,E,h⟩:=ak;refine⟨ι,M,env,S,E,?_⟩;unfold aC at h;cases q:f env M with
 |ok d M1=>rw[q]at h;exactλv H1 ι1 x1 S1 r1=>h _ H1 ι1 x1 S1 ((E.mono x1).set i r1)|exc x M1=>rw[q]at h;exactλa C H' ι' x1 S1 r1 c1 a' C' e1 e2=>by cases e1;cases e2;exact h σ a C H' ι' (λ_=>rfl) x1 S1 r1 c1|bad=>rw[q]at h;cases h
end
variable{N:List aj}
section
variable {P:Y9} {w:aQ} {K:Yb} {mg:aj->Option Yh} {base:aH}
def ZtP{qual:aj}{scope:Scope}{f:Yy}{cd:Yh}{A:bG}{outer:List dz}{s:Yl}{E:XK}{e:Yy}{H':Hp}(hE:E (.ref C) (O e) H'):
  XW (qI (rY P w) P w K mg base N qual scope f cd A outer s H E) σ e C H':=λb4 s' I x=>by
 let⟨dd,he,i8,fl,cv,_⟩:=x;show aq _ _ (Nq _<|.ref e) _ _ s';refine ZtX I.ok.frames J fl λh' Gg sl=>?_;exact⟨e,C,dd,H',i8,rfl,I.os,I.bare,cv.un I.base Gg.stays sl<|YY I,cv.i6 I.i6 he fl.stays Gg.stays Gg.Gf,he,Gg,cv,hE⟩
def Zs{H':Hp}{ι':List Yy}{M M':b3}{Q:VK}{E:XK}{d:D}{v:V}(S:aF K H ι M)(x:Ext K H ι H' ι')(S':aF K H' ι' M')(r:Rep K H' ι' d v)(h:zM K H ι Q E (gj M d M')):Q v H':=Xe S x S' r (by unfold gj at h |-;split at h<;>(rename_i c;first|rw[c_ c]|rw[d4 c])<;>exact h)
theorem AeO{x qual:aj}{st:Ydv}{f:Yy}{k:Nat}{body:S3}(F:rG K x qual st f fd)(S:dN N ps (bJ st))(hb:∀(j0:Yh) (A:bG) (outer:List dz) (s:Yl) (H:Hp) (E:XK),dM k (A.deeper<|nZ qual (bJ st) (c6 s) f j0)->vN (qI (rY P w) P w K mg base N qual (bJ st) f j0 A outer s H E) true (jz st) body):
  h_ P w K mg base (rY P w) (k+1) f fd ps (YS K (B ps)<|cR (B ps) (B N) body):=by
 let⟨oc,od,dV,kV,doc,pm,an,j0,ct,sM,rfl,lk,tI⟩:=F.ex;refine Ws lk tI S (λvs H Q E ⟨ι,M,ds,_,r,l,_⟩=>by rw[r.length,l]) λA outer s H vs Q E hr ak=>?_;let⟨ι,M,ds,SR,r,l,h⟩:=ak;refine⟨_,hb j0 A outer s H E hr,ι,M,ds.map O++Yq (B N-B ps) Yj,SR,?_,?_⟩
 .have e:L2.start N vs=vs.map O++Yq (B N-B ps) Yj:=by unfold L2.start;rw[r.length,l]
  rw[e];exact bT.start r _
 .unfold cR at h;rw[c_ l]at h;cases q:body (ds.map O++Yq (B N-B ps) Yj) M with
  |nx env' M'=>rw[q]at h;exactλσ' H' ι' x S' E'=>Zs SR x S' Rep.Z h|rt d M'=>rw[q]at h;exactλv H' ι' x S' r'=>Zs SR x S' r' h|bk _ _=>rw[q]at h;cases h|ct _ _=>rw[q]at h;cases h
  |exc _ _=>rw[q]at h;exactλσ' a C H' ι' _ x S' r' c'=>ZtP (h a C H' ι' x S' r' c')|bad=>rw[q]at h;cases h
end
section
variable {P:Y9} {w:aQ} {K:Yb} {mg:aj->Option Yh} {base:aH}
def ZuY{k n:Nat}{f:Yy}(G:h_ P w K mg base (rY P w) k f fd ps (YS K n F)):h_ P w K mg base m_ k f fd ps (vI K n F):=
 ⟨λvs H Q E z=>let⟨ι,M,ds,S,r,l,h⟩:=z;G.len vs H Q E0 ⟨ι,M,ds,S,r,l,h.x⟩,λA outer s H args us vs Q E hr he hb hv z=>let⟨ι,M,ds,S,r,l,h⟩:=z;tE (G.run A outer s H args us vs Q E0 hr he hb hv ⟨ι,M,ds,S,r,l,h.x⟩) λr s' z=>by
  cases r with
  |error e=>exfalso;let⟨_,_,_,_,_,_,_,_,_,_,_,_,_,z⟩:=z;exact z|ok fl=>cases fl<;>exact z⟩
def pZ(P:Y9)(w:aQ)(K:Yb)(mg:aj->Option Yh)(base:aH)(k:Nat)(x:aj)(ps:List aj)(F:F3):Prop:=(∀ds M,B ds≠B ps->F ds M= .bad)/\∃f fd,mg x=O (.ref f)/\sZ K (.ref f)=true/\Binds K fd ps []/\h_ P w K mg base (rY P w) k f fd ps (YS K (B ps) F)
def pZ.fn{k:Nat}{x:aj}(h:pZ P w K mg base k x ps F):aY P w K mg base k x ps F:=let⟨n,f,fd,a,b,c,d⟩:=h;⟨n,f,fd,a,b,c,ZuY d⟩
theorem pZ.of{x:aj}{st:Ydv}{k:Nat}{body:S3}(d:gm K mg x st ps)(S:dN N ps (bJ st))(hb:∀(f:Yy) (j0:Yh) (A:bG) (outer:List dz) (s:Yl) (H:Hp) (E:XK),dM k (A.deeper<|nZ x (bJ st) (c6 s) f j0)->vN (qI (rY P w) P w K mg base N x (bJ st) f j0 A outer s H E) true (jz st) body):
  pZ P w K mg base (k+1) x ps (cR (B ps) (B N) body):=by
 let⟨f,fd,F,m,bi⟩:=d;exact⟨λds M h=>d4 h,f,fd,m,F.kp,bi,AeO F S<|hb f⟩
end
section
variable {X:Cx} {o e:Expr} {es:List Expr} {f:E3} {gl:d_} {c m:b9} {C:Yy} {fn x:aj} {pos pos' apos p:a_} {k:Nat} {ps:List aj} {F:F3}
def Zy9{fa:Yy}{sp:Sp}{b4:List (Yy×aK)}{s:Yl}{Q:VK}{us:List Yh}{vs:List V}(G:h_ X.prog X.w X.K X.mg X.base (rY X.prog X.w) k fa fd ps sp)(hr:dM k X.A)(hb:Binds X.K fd ps [])(I:Inv X b4 σ H s)(r:Vals vs us)(h:sp vs H Q (EX X σ)):aq (aA X.prog X.w) X.A (call (.ref fa) us) (EP X b4 σ Q) X.xe s:=by
 have hl:(us++[]).length=B ps:=by rw[iD,<-r.length];exact G.len _ _ _ _ h
 have BA:=hb s us I.cJ hl;rw[iD]at BA;refine q9<|tE (G.run X.A X.stack s H ⟨us,[]⟩ us vs Q (EX X σ) hr I.env0 BA r h) λr s' hq=>?_;cases r with
 |error e=>let⟨e,C,H',rfl,I',x,hE⟩:=Zz7 I hq;exact hE e C J J b4 s' I' x|ok fl=>
  cases fl with
  |ret u=>exact I.after hq|next=>exact fZ hq|brk=>exact fZ hq|cont=>exact fZ hq
def ZA{es:List Expr}{b4:List (Yy×aK)}{s:Yl}{M M1:b3}{env:bO}{ds:c9}{R:List Yh->Yl->Prop}(ha:CA X.jP es gl)(I:Inv X b4 σ H s)(S:aF X.K H ι M)(E:bT X.K H ι env σ)(q:gl env M= .ok ds M1)(h:∀us s1 vs H1 ι1,Inv X b4 σ H1 s1->Vals vs us->Ext X.K H ι H1 ι1->aF X.K H1 ι1 M1->aB X.K H1 ι1 ds vs->R us s1):aq (aA X.prog X.w) X.A (HJ<|b8 pos<|Yv es X.env) R X.xe s:=by
 refine gD (ha pos b4 s σ H (λvs H1=>∃ι1,Ext X.K H ι H1 ι1/\aF X.K H1 ι1 M1/\aB X.K H1 ι1 ds vs) (I.rh _) ⟨ι,M,env,S,E,?_⟩) (λus s1 z=>?_) λ_ _ z=>fZ z
 .rw[q];exactλvs H1 ι1 x1 S1 r1=>⟨ι1,x1,S1,r1⟩
 .let⟨vs,H1,I1,r,ι1,x1,S1,r1⟩:=z;exact h us s1 vs H1 ι1 I1.qp r x1 S1 r1
def YT(G:pZ X.prog X.w X.K X.mg X.base k x ps F)(hr:dM k X.A)(ha:CA X.jP (e::es) gl)(hg:Gl X x:=by rfl)(sd:(x==("__debug__":aj))=false:=by decide)(he:Yv (e::es) X.env=(false,aO e X.env)::Yv es X.env:=by rfl)(qv:(b8 pos<|Yv es X.env).any (·.1)=false:=by rfl):Gh X (.Call (.Name x p) (e::es) [] pos) (aJ F<|oK gl):=by
 let⟨hn,fa,fd,hm,kp,bi,ok⟩:=G;intro b4 s σ H Q I h;let⟨ι,M,env,S,E,h⟩:=h;refine Am<|Bl I hg hm ?_ sd;unfold aJ oK at h;cases q:gl env M with
 |exc _ _=>rw[q]at h;cases h|bad=>rw[q]at h;cases h|ok ds M1=>
  rw[q]at h;have h:zM X.K H ι Q (EX X σ) (F ds M1):=h;have hl:B ds=B ps:=by refine OD λz=>?_;rw[hn ds M1 z]at h;cases h
  exact Tj (h₀:=X.base) I.ok.mod.Bj kp (ZA ha I S E q λus s1 vs H1 ι1 I1 r x1 S1 r1=>⟨I1.cJ,Zy9 ok hr bi I1 r ⟨ι1,M1,ds,S1,r1,hl,h.up x1⟩⟩) he qv
end
abbrev Cf(X:Cx)(A':bG)(E':Yh->Yl->Prop):Cx:={X with A:=A',calm:=false,xe:=E'}
abbrev QF(X:Cx)(QG:List (Yy×aK))(E':Yh->Yl->Prop):Cx:={X with pn:=QG,xe:=E'}
variable{E':Yh->Yl->Prop}{yg:List (Yy×aK)}
section
variable {X:Cx} {b4:List (Yy×aK)} {σ:St} {H:Hp} {s:Yl}
def ZE(I:Inv X b4 σ H s)(A':bG)(E':Yh->Yl->Prop)(hf:A'.frames=X.A.frames):Inv (Cf X A' E') b4 σ H s:=
 let ok:=I.ok
 ⟨⟨ok.mod,ok.kind,ok.glob,ok.blt,ok.above,ok.inj,ok.has,ok.zk,nofun,hf.trans ok.frames,ok.iI,ok.Fd,ok.bs,ok.qF,ok.Aj,ok.yh,ok.mR,ok.tZ⟩,I.os,I.bare,I.base,I.loc,I.cell,I.free,I.mO,I.pin,I.i6,I.len⟩
def Zrt{σ':St}{H':Hp}{s':Yl}{A':bG}(I:Inv X b4 σ H s)(i4:Inv (Cf X A' E') yg σ' H' s'):Inv X yg σ' H' s':=⟨I.ok,i4.os,i4.bare,i4.base,i4.loc,i4.cell,i4.free,i4.mO,i4.pin,i4.i6,i4.len⟩
def Zvn(I:Inv X b4 σ H s)(E':Yh->Yl->Prop):Inv (QF X (X.pn++b4) E') [] σ H s:=
 let ok:=I.ok
 ⟨⟨ok.mod,ok.kind,ok.glob,ok.blt,ok.above,ok.inj,ok.has,ok.zk,ok.hd,ok.frames,ok.iI,ok.Fd,ok.bs,ok.qF,ok.Aj,ok.yh,ok.mR,ok.tZ⟩,I.os,I.bare,I.base,I.loc,I.cell,I.free,I.mO,λp hp=>I.pin p (by simpa using hp),I.i6,I.len⟩
def JX{σ':St}{H':Hp}{s':Yl}(I:Inv X b4 σ H s)(i4:Inv (QF X (X.pn++b4) E') yg σ' H' s'):Inv X b4 σ' H' s':=⟨I.ok,i4.os,i4.bare,i4.base,i4.loc,i4.cell,i4.free,i4.mO,λp hp=>i4.pin p<|pB _ hp,i4.i6,i4.len⟩
def Zue{D:Ends}{f:Flow}{s':Yl}(I:Inv X b4 σ H s)(h:SP (QF X (X.pn++b4) E') yg D f s'):SP X b4 D f s':=by
 cases f with
 |next=>let⟨σ',H',i4,q⟩:=h;exact⟨σ',H',JX I i4,q⟩|brk=>let⟨σ',H',i4,q⟩:=h;exact⟨σ',H',JX I i4,q⟩|cont=>let⟨σ',H',i4,q⟩:=h;exact⟨σ',H',JX I i4,q⟩|ret u=>let⟨v,σ',H',i4,r,q⟩:=h;exact⟨v,σ',H',JX I i4,r,q⟩
def ZH{i8 h':aH}{e:Yy}{dd:Option Yy}(I:Inv X b4 σ H s)(he:H e=O (vH e C dd))(s1:i8.StaysIn s.heap)(cv:Cm i8 X.fs X.ex X.H₀ X.s₀.heap H e)(hp:∀p∈X.pn++b4,i8.get? p.1=O p.2)(s2:i8.StaysIn h')(sl:s.heap.UpToSlots h')(xo:BZ e C dd h'):Inv X b4 σ H {s with heap:=h'}:=by
 have cellK:∀c v,s.heap.IsCell c v->h'.IsCell c v:=λc v z=>by
  let⟨o,ho,hd⟩:=z;let⟨s3,e3⟩:=sl c o ho λvs q=>by rw[hd]at q;cases q
  exact⟨_,e3,hd⟩
 refine⟨I.ok,I.os,I.bare,cv.un I.base s2 sl<|YY I,?_,λx c z=>?_,I.free,I.mO,λp hq=>⟨s2 _ _<|hp p hq,(I.pin p hq).2⟩,cv.i6 I.i6 he s1 s2 xo,I.len⟩
 .let⟨m,hn,hl⟩:=I.loc;refine⟨m,sl.ns hn,λi x v e1 e2 e3=>?_⟩;let⟨u,r,l⟩:=hl i x v e1 e2 e3;refine⟨u,r,?_⟩;rcases l with l|⟨k,c,e,z⟩
  .exact .inl l
  .exact .inr ⟨k,c,e,cellK _ _ z⟩
 .let⟨v,q⟩:=I.cell x c z;exact⟨v,cellK _ _ q⟩
def ZxS{M:Model}{A:bG}{E:Yh->Yl->Prop}{Q:Unit->Yl->Prop}{j:Nat}{n:aj}{pos:a_}(I:Inv X b4 σ H s)(hN:X.N.Nodup)(hj:X.N[j]?=O n)(hl:X.env.scope.names.lookup n=O .local)(h:∀s',Inv X b4 (σ.set j Yj) H s'->Q () s'):aq M A (do bindName X.env n .none;IY X.env n pos) Q E s:=by
 have xf:X.env.kindOf n=O .local:=hl;have hp:(X.env.scope.kind== .class|| (X.env.scope.kind== .module&&X.env.locals !=X.env.globals))=false:=by rw[I.ok.kind];rfl
 let⟨m,hn,hv⟩:=id I.loc;refine Yc<|wpAny_bindName<|IQ xf hn (λh₁ hn₁ Ci=>?_) hp;unfold IY unbindName deleteName;refine wpAny_onRaise<|Yc<|Hz<|Yc ?_;simp only[hp,xf];rw[d4 aaA];refine Yc<|wpAny_nsDel_keeps hn₁ λh₂ v hn₂ YJ=>?_;simp only[HZ,if_true,if_false,yR,Bool.not_true];refine Yr<|Hz<|h _ ?_;have sb:=Ci.trans YJ;have ne:∀b o,X.s₀.heap.get? b=O o->b≠X.env.locals:=λb o q=>d8<|Y5 (Y3 q) I.ok.above;have nt:∀b,H b≠Yj->b≠X.env.locals:=λb q z=>q (by rw[z];exact I.free);have cellK:∀x c,X.env.cells.lookup x=O c->∀v,s.heap.IsCell c v->h₂.IsCell c v:=λx c z v q=>by let⟨o,ho,hd⟩:=q;exact⟨o,(sb.2 c<|I.y_ x c z).trans ho,hd⟩
 refine⟨I.ok,I.os,I.bare,⟨λb o q n hb hx=>?_,λb o q n hb hx=>?_,I.base.free,λb o q hx=>?_,I.base.rg,I.base.mQ,I.base.nR⟩,⟨_,hn₂,λi x v' e1 e2 e3=>?_⟩,λx c z=>?_,I.free,I.mO,λp hp=>?_,λb u q=>?_,by rw[tQ];exact I.len⟩
 .exact(sb.2 b<|ne b o q).trans (I.base.keep b o q n hb hx)
 .let⟨sl,z⟩:=I.base.slot b o q n hb hx;exact⟨sl,(sb.2 b<|ne b o q).trans z⟩
 .let⟨o',z⟩:=I.base.there b o q hx;exact⟨o',(sb.2 b<|ne b o q).trans z⟩
 .have xh:i≠j:=λz=>by
   subst z;rw[KA]at e2;cases q:σ[i]? with
   |none=>rw[q]at e2;simp at e2|some _=>rw[q]at e2;simp at e2
  rw[Ys<|cu xh]at e2;let⟨u,r,l⟩:=hv i x v' e1 e2 e3;have ZI:x≠n:=λz=>xh (V5 hN e1<|by rwa[z]);refine⟨u,r,?_⟩;rcases l with⟨k,l⟩|⟨k,c,e,z⟩
  .refine .inl ⟨k,?_⟩;show(if x=n then _ else _)=_;rw[d4 ZI];show(if x=n then _ else _)=_;rwa[d4 ZI]
  .exact .inr ⟨k,c,e,cellK x c e _ z⟩
 .let⟨v,q⟩:=I.cell x c z;exact⟨v,cellK x c z v q⟩
 .let⟨e,n,ne',r⟩:=I.pin p hp;exact⟨(sb.2 _ ne').trans e,n,ne',r⟩
 .refine(I.i6 b u q).rf (λc v hc z=>(sb.2 c<|nt c ?_).trans z) (λ_ z=>z) λ_ _ z=>z;rcases hc with rfl|hc
  .rw[q];simp
  .rw[hc];simp
end
def bT.unset{K:Yb}{env:bO}(r:bT K H ι env σ)(j:Nat):bT K H ι (env.set j Yj) (σ.set j Yj):=by
 refine⟨by simp[r.1],λi d h=>?_⟩;by_cases xh:i=j
 .subst xh;rw[KA]at h;cases q:env[i]? with
  |none=>rw[q]at h;simp at h|some _=>rw[q]at h;simp at h
 .rw[Ys<|cu xh]at h;let⟨w,q,z⟩:=r.2 i d h;exact⟨w,by rwa[Ys<|cu xh],z⟩
def Zw8{X:Cx}{x n:aj}{np pos AG:a_}{body y1:List Ydv}{b0:Ydv}{cs:d6}(j:Nat){b h:S3}{CE:Yy}(hN:X.N.Nodup)(hm:X.mg x=O (.ref CE))(xB:∀c C,cs.contains c=true->ClsAt X.K c C->Tz X.K (.ref C) (.ref CE)=O true)(hb:∀QG E',vN (QF X QG E') false body b)(hs:∀A' E',pU (Cf X A' E') (b0::y1) h)(r_:X.stack=X.env::X.outer:=by rfl)(yY:X.env.frame=O X.env.locals:=by rfl)(hj:X.N[j]?=O n:=by rfl)(hl:X.env.scope.names.lookup n=O .local:=by rfl)(hg:Gl X x:=by rfl)(sd:(x==("__debug__":aj))=false:=by decide):CS X (.Try body [.ExceptHandler (O<|.Name x np) (O n) (b0::y1) pos] [] [] AG) (Jy cs j b h):=by
 intro b4 s σ H D I z;let⟨ι,M,env,S,E,hf⟩:=z;refine wpAny_Try_except<|gD (hb (X.pn++b4) _ [] s σ H D (Zvn I _) ⟨ι,M,env,S,E,?_⟩) (λf s1 q=>?_) λ_ _ z=>z
 rotate_left
 .have q:=Zue I q;cases f with
  |next=>let⟨σ',H',i4,q⟩:=q;exact Hs ⟨σ',H',i4,q⟩|brk=>exact q|cont=>exact q|ret u=>exact q
 unfold Jy at hf;cases q:b env M with
 |nx e M1=>rwa[q]at hf|rt e M1=>rwa[q]at hf|bk e M1=>rwa[q]at hf|ct e M1=>rwa[q]at hf
 |bad=>rwa[q]at hf|exc x1 M1=>
  rw[q]at hf;dsimp only at hf;have hc:cs.contains x1.cls=true:=OD λz=>by rwa[d4 z]at hf
  rw[c_ hc]at hf;intro σ' e C H' ι' aby xt S1 r1 c1 yg s' i4 QH;obtain rfl:=aby J;let⟨dd,he,i8,fl,cv,ZN⟩:=QH;have I1:Inv X b4 σ' H' s':=JX I i4;have fl0:vL i8 (X.env::X.outer) e C dd s'.heap:=by rwa[<-r_]
  have AeP:X.A.frames=O (X.env::X.outer):=by rw[<-r_];exact I1.ok.frames
  show aq (aA X.prog X.w) X.A (HD (.ref e) X.env) _ _ s';refine YV AeP yY fl0 λh₄ a0 held sl4=>?_;refine YL held λh₅ Hl sl5=>?_;have I5:Inv X b4 σ' H' {s' with heap:=h₅}:=ZH I1 he fl.stays cv ZN Hl.1 (sl4.trans sl5) Hl.Gf;have Wf:=ZE I5 (X.A.mark<|O<|.ref e) (λ_ _=>False) J;refine wpAny_handleBy_cons (codeAny_handlers_test<|Bl Wf hg hm ?_ sd) (by intro q;cases q);have LT:PySem.W.Looks (aA X.prog X.w) h₅ (typeOf<|.ref e) (.ref C):=by let⟨o,vs,a,b,_⟩:=Hl.Gf;exact b▸(PySem.W.Looks.ld a).andThen .now
  refine PySem.W.exm_one (K:=X.K) (cls:=.ref C) I5.cJ LT (xB _ _ hc c1) _ _ _ _ (λ_ _ q=>q) ?_;refine codeAny_handlers_suite_as ?_;refine YL Hl λZid ZO sl6=>?_;have I6:Inv X b4 σ' H' {s' with heap:=Zid}:=ZH (s:={s' with heap:=h₅}) I5 he Hl.1 cv ZN ZO.1 sl6 ZO.Gf;have I6':=ZE I6 (X.A.mark<|O<|.ref e) (λ_ _=>False) J;refine V7 (X:=Cf X (X.A.mark<|O<|.ref e) λ_ _=>False) (v:=.ref e) I6' hN hj (.inl hl) J (λs7 I7=>?_)<|.inr hl;refine gD (hs (X.A.mark<|O<|.ref e) (λ_ _=>False) b4 s7 (σ'.set j<|O<|.ref e) H' {nx:=λσ2 H2=>D.nx (σ2.set j Yj) H2,rt:=λ_ _=>False} I7 ⟨ι',M1,env.set j<|O x1.arg,S1,(E.mono xt).set j r1,?_⟩) (λf s8 q=>?_) λ_ _ z=>fZ z
  .cases qh:h (env.set j<|O x1.arg) M1 with
   |nx e' M2=>rw[qh]at hf;exactλσ2 H2 ι2 x2 S2 E2=>hf _ H2 ι2 (xt.trans x2) S2 (E2.unset j)|rt _ _=>rw[qh]at hf;exact hf.elim|bk _ _=>rw[qh]at hf;exact hf.elim|ct _ _=>rw[qh]at hf;exact hf.elim
   |exc _ _=>rw[qh]at hf;exact hf.elim|bad=>rw[qh]at hf;exact hf.elim
  .cases f with
   |next=>let⟨σ2,H2,I8,q⟩:=q;exact ZxS (Zrt I I8) hN hj hl λs9 I9=>⟨σ2.set j Yj,H2,I9,q⟩|brk=>exfalso;let⟨_,_,_,q⟩:=q;exact q|cont=>exfalso;let⟨_,_,_,q⟩:=q;exact q
   |ret u=>exfalso;let⟨_,_,_,_,_,q⟩:=q;exact q
end L3
namespace PySem.W
open PySem PySem.Spec PySem.Calls PyProof.Rows Builtin Builtin.ObjectAttr Builtin.Getset_descriptor
section
variable {prog:Y9} {w:aQ} {K:Frag} {x D:Yy}
def qY(x D:Yy)(h:aH):Prop:=∃o,h.get? x=O o/\o.cls= .ref D
def qY.ty{h:aH}(p:qY x D h)(M:Model):Looks M h (typeOf<|.ref x) (.ref D):=by let⟨o,a,b⟩:=p;exact b▸(Looks.ld a).andThen .now
def Zvq{M:Model}{h:aH}{name:aj}{a g:Yh}(X:K.In h)(ha:findIn K (.ref D) name=O (O a))(hg:specialIn K a "__get__" =O (O g))(ht:takesIn K a=O true):Looks M h (find (.ref x) (.ref D) name) (.bind g a):=
 (looks_findIn (M:=M) X ha).andThen ((show Looks M h (getOf<|O a) (O g)from looks_specialIn X hg).andThen
  ((show Looks M h (dataDescriptor? (O a)<|O g) (O (g,a))from(looks_takesIn (M:=M) X ht).andThen .now).andThen<|Looks.tag .now))
def Zwy{A:bG}{R:ph->Yl->Prop}{s:Yl}{tp:Yh}(X:K.In s.heap)(p:qY x D s.heap)(hm:mroIn K D (.type "object")=O true)(hq:R (.ok<|.ret<|.ref D) s):kO (aA prog w) A (.call (.builtin "getset_descriptor.__get__") ⟨[.builtin "object.__class__",.ref x,tp],[]⟩) R s:=by
 let⟨hh,gg,dd,tt,oo⟩:=s;have L0:=p.ty<|aA prog w;have L1:=looks_mroIn (M:=aA prog w) X hm;refine wG KF.slot_gs.plain KF.entry_gs<|KF.slot_gs.check _ _ _ _ _ _ _ _ KF.type_class (KF.args_gs _ _ _) ?_;unfold Builtin.«getset_descriptor.__get__» descrGet;rw[dga_obj];refine Yc<|Yr ?_;unfold descrGetter descrCheckInstance descrNameAndClass HB;simp only[KF.owner_class]
 repeat lk
 refine⟨A1 _ aaE,yw KF.entry_class ?_⟩;unfold Builtin.«object.__class__» shownTypeOf;repeat lk
 exact hq
theorem AeQ{A:bG}{R:ph->Yl->Prop}{s:Yl}{tk:gq}(ha:findIn K (.ref D) "__class__" =O (O<|.builtin "object.__class__"))(hn:specialIn K (.builtin "object.__class__") "__get__" =O (O<|.builtin "getset_descriptor.__get__"))(yy:takesIn K (.builtin "object.__class__")=O true)(hm:mroIn K D (.type "object")=O true)(hb:mroIn K D (.type "BaseException")=O true)(X:K.In s.heap)(p:qY x D s.heap)(hq:R (.ok<|.ret<|.ref D) s):kO (aA prog w) A (.call (.builtin "BaseException.__getattribute__") ⟨[.ref x,.str "__class__" tk],[]⟩) R s:=by
 let⟨hh,gg,dd,tt,oo⟩:=s;have L0:=p.ty<|aA prog w;have L1:=looks_mroIn (M:=aA prog w) X hb;have L3:=Zvq (M:=aA prog w) (x:=x) X ha hn yy;have hk:builtinKind "BaseException.__getattribute__" =O .slot:=by decide +kernel
 have hs:splitId "BaseException.__getattribute__" =O ("BaseException","__getattribute__"):=by decide +kernel
 have hz:=NH (.ref x)<|.str "__class__" tk;refine wG F.excAttr_ValueError.ga.plain NG ?_;simp only[Ed,hk,hs];refine Yc ?_;unfold HB
 repeat lk
 refine wpAny_run (h:=Yj)<|Zwy X p hm ?_;exact Yr<|Yr hq
theorem Zse{A:bG}{E:Yh->Yl->Prop}{s:Yl}{Q:Option Yh->Yl->Prop}(hg:findIn K (.ref D) "__getattribute__" =O (O<|.builtin "BaseException.__getattribute__"))(xy:findIn K (.ref D) "__getattr__" =O Yj)(ha:findIn K (.ref D) "__class__" =O (O<|.builtin "object.__class__"))(hn:specialIn K (.builtin "object.__class__") "__get__" =O (O<|.builtin "getset_descriptor.__get__"))(yy:takesIn K (.builtin "object.__class__")=O true)(hm:mroIn K D (.type "object")=O true)(hb:mroIn K D (.type "BaseException")=O true)(X:K.In s.heap)(p:qY x D s.heap)(hq:Q (O<|.ref D) {s with toks:=s.toks+1}):aq (aA prog w) A (getAttr? (.ref x) "__class__") Q E s:=by let⟨hh,gg,dd,tt,oo⟩:=s;have L0:=p.ty<|aA prog w;have L1:=looks_findIn (M:=aA prog w) X hg;have L2:=looks_findIn (M:=aA prog w) X xy;have f3:=F.excAttr_ValueError.ga.bind<|.ref x;unfold getAttr? getAttrBy? getAttrBy;refine Yc<|Uc<|Yc<|Hx<|fW<|Yc<|L0.at<|Yc<|L1.at ?_;show aq _ _ (MN _ _ _ _ _ _) _ _ _;unfold MN hookBefore JY;refine Yc<|L2.at<|Yc<|Hx<|fW ?_;show aq _ _ (M_ _ _ _) _ _ _;unfold M_;rw[f3];refine Yc<|Yr ?_;refine q9<|AeQ ha hn yy hm hb X p ?_;exact handed_on J<|Yr hq
def Adp(hg:findIn K (.ref D) "__getattribute__" =O (O<|.builtin "BaseException.__getattribute__"))(xy:findIn K (.ref D) "__getattr__" =O Yj)(hb:mroIn K D (.type "BaseException")=O true)(hc:(clsIn K D).isSome=true)(ha:findIn K (.ref D) "__class__" =O (O<|.builtin "object.__class__"))(hn:specialIn K (.builtin "object.__class__") "__get__" =O (O<|.builtin "getset_descriptor.__get__"))(yy:takesIn K (.builtin "object.__class__")=O true)(hm:mroIn K D (.type "object")=O true):
  KitX K (.ref x) (.ref D) (qY x D):=by
 let⟨cdD,zD⟩:=Ho.mp hc;unfold clsIn at zD;split at zD
 .rename_i c' d' cd' BY ho;refine⟨λM h _ p=>p.ty M,λM h X _=>?_,λh tp dd b6 n sl X Bn=>?_,λX p k=>Zse hg xy ha hn yy hm hb X p k⟩
  .intro A' Q' E' s' k q;unfold isType loadHead;exact Yc<|MP (k _ _<|X _ _ ho)<|Yr q
  .refine LZ.mpr λq=>?_;have e:D=tp:=Value.ref.inj<|beq_iff_eq.mp q;rw[<-e]at Bn;cases(X _ _ ho).symm.trans Bn
 .cases zD
def mU{t:Yh}{C:Yy}{cd:ClassData}{b:Bool}(cl:clsIn K C=O cd)(ty:typeIn K (.ref C)=O (.type "type"))(Zfy:subIn K (.ref C) (.ref C)=O true)(sb:subIn K t (.ref C)=O b):kitOne K t (.ref C)=O b:=by
 unfold kitOne;by_cases q:(t== .ref C)=true
 .rw[c_ q];rwa[beq_iff_eq.mp q,Zfy]at sb
 .rw[d4 q];show(if((clsIn K C).isSome&&typeIn K (.ref C)==O (.type "type"))=true then subIn K t (.ref C)else Yj)=O b;rwa[cl,ty,c_<|by rfl]
def ZT{t:Yh}{T:String}{b:Bool}(hm:kitMeta T=true)(ne:(t== .type T)=false)(sb:subIn K t (.type T)=O b):kitOne K t (.type T)=O b:=by unfold kitOne;rw[d4 (by rw[ne];decide)];show(if kitMeta T=true then subIn K t (.type T)else Yj)=O b;rwa[c_ hm]
def mV{t c:Yh}{r:List Yh}{b:Bool}(h:kitOne K t c=O false)(hr:kitAny K t r=O b):kitAny K t (c::r)=O b:=by unfold kitAny;rwa[h]
def ZU{t c:Yh}{r:List Yh}(h:kitOne K t c=O true):kitAny K t (c::r)=O true:=by unfold kitAny;rw[h]
def Mp{t:Yh}:kitAny K t []=O false:=rfl
def AeR{C CE:Yy}{cd:ClassData}(cl:clsIn K CE=O cd)(ty:typeIn K (.ref CE)=O (.type "type"))(bs:subIn K (.ref CE) (.type "BaseException")=O true)(sb:subIn K (.ref C) (.ref CE)=O true):exmOne K (.ref C) (.ref CE)=O true:=by unfold exmOne;rw[bs,c_<|by rfl];show(if((clsIn K CE).isSome&&typeIn K (.ref CE)==O (.type "type"))=true then subIn K (.ref C) (.ref CE)else Yj)=O true;rwa[cl,ty,c_<|by rfl]
end
end PySem.W
namespace L3
open PySem PySem.Spec PyProof.Rows L2
def Zjb:jY "ValueError" =O (.type "ValueError"):=by decide +kernel
structure zN(K:Yb)(C:Yy):Prop where
 ga:fJ K (.ref C) "__getattribute__" =O (O<|.builtin "BaseException.__getattribute__")
 Aab:fJ K (.ref C) "__getattr__" =O Yj
 be:wD K C (.type "BaseException")=O true
 cl:(mW K C).isSome=true
 fa:fJ K (.ref C) "__class__" =O (O<|.builtin "object.__class__")
 sp:D_ K (.builtin "object.__class__") "__get__" =O (O<|.builtin "getset_descriptor.__get__")
 tk:Tr K (.builtin "object.__class__")=O true
 mo:wD K C (.type "object")=O true
def zN.ZY{K:Yb}{C x:Yy}(h:zN K C):PySem.W.KitX K (.ref x) (.ref C) (PySem.W.qY x C):=PySem.W.Adp h.ga h.Aab h.be h.cl h.fa h.sp h.tk h.mo
def tK(vs:List V):TA:=λ_ H Q=>Q vs H
section
variable {X:Cx} {a:Expr} {es:List Expr} {f:E3} {p p1 p2 pos pt:a_} {x:aj} {C:Yy} {vs:List V} {yes no:d6}
def Zxq:PA X [] (tK []):=zc.imp λσ H Q h=>h
def Cp(hm:X.mg x=O (.ref C))(h:PA X es (tK vs))(hg:Gl X x:=by rfl)(hd:(x==("__debug__":aj))=false:=by decide)(he:Yv (.Name x p1::es) X.env=(false,aO (.Name x p1) X.env)::Yv es X.env:=by rfl):PA X (.Name x p1::es) (tK<|.ref C::vs):=(qG (za hg hm (v:=.ref C) J hd) h he).imp λσ H Q h=>h
structure zO(K:Yb)(yes no:d6)(cs:List Yh):Prop where
 Z:yr K (.type "NoneType") cs=O false
 yes:∀c C,yes.contains c=true->ClsAt K c C->zN K C/\yr K (.ref C) cs=O true
 no:∀c C,no.contains c=true->ClsAt K c C->zN K C/\yr K (.ref C) cs=O false
def lZ{b4:List (Yy×aK)}{σ:St}{H:Hp}{s:Yl}{ι:List Yy}{M:b3}{d:D}{v:V}{u:Yh}{cs:List Yh}{Q:VK}(I:Inv X b4 σ H s)(S:aF X.K H ι M)(r:Rep X.K H ι d v)(ru:RelV v u)(hk:zO X.K yes no cs)(q:au X.K H ι Q (oM yes no d M)):
  ∃(t:Yh) (Hc:aH->Prop) (b:Bool),PySem.W.KitX X.K u t Hc/\Hc s.heap/\u≠ .builtin "__main__.__loader__#opaque" /\yr X.K t cs=O b/\Q (.bl b) H:=by
 cases d with
 |Z=>have:=r.kh;subst this;cases(show u=Value.none from ru);exact⟨_,_,false,IC,True.intro,nofun,hk.Z,au.ok q S Rep.bl⟩|ref n=>
  rw[W7]at q;cases hn:M[n]? with
  |none=>rw[hn]at q;exact q.elim|some o=>
   rw[hn]at q;cases o with
   | ins c fs=>cases c with
    |nil=>exact q.elim|cons k c=>cases k with
     |succ _=>exact q.elim|zero=>
       let⟨a,ha,rfl⟩:=r.fG;cases(show u=Value.ref a from ru);rcases S.obj n _ a hn ha with⟨_,_,_,_,z,_⟩|⟨C,dd,e,_,ao,_⟩
       .exact k9 J z.2
       .have ao:ClsAt X.K c C:=ao;let⟨⟨o,ws,h1,h2,_⟩,_⟩:=(show d9 X.prog X.w H s.heap a (vH a C dd)from I.i6 a _ e);have q:au X.K H ι Q (if yes.contains c then .ok (.bl true) M else if no.contains c then .ok (.bl false) M else .bad):=q;by_cases hy:yes.contains c=true
        .rw[c_ hy]at q;let⟨k1,k2⟩:=hk.yes c C hy ao;exact⟨_,_,true,k1.ZY,⟨o,h1,h2⟩,nofun,k2,au.ok q S Rep.bl⟩
        .rw[d4 hy]at q;by_cases hy:no.contains c=true
         .rw[c_ hy]at q;let⟨k1,k2⟩:=hk.no c C hy ao;exact⟨_,_,false,k1.ZY,⟨o,h1,h2⟩,nofun,k2,au.ok q S Rep.bl⟩
         .rw[d4 hy]at q;exact q.elim
   |_=>exact q.elim
 |_=>exact q.elim
def refsOf(cs:List Yy):List Yh:=cs.map Value.ref
theorem vr:∀{cs:List Yy} {us:List Yh},Vals (cs.map V.ref) us->us=refsOf cs
 |[],_,.nil=>rfl|c::cs,_,.cons r t=>by rw[vr (cs:=cs) t];cases r;rfl
def Zsi{cs:List Yy}{k}(hm:X.mg "isinstance" =Yj)(hk:zO X.K yes no (refsOf cs))(h:C3 X a f)(hc:PA X es (tK<|cs.map V.ref))(hl:B cs<=100:=by exact N7 J)(hg:Gl X "isinstance":=by rfl)(hs:Yv (a::[.Tuple es k pt]) X.env=(false,aO a X.env)::Yv [.Tuple es k pt] X.env:=by rfl)(xE:Yv (.Tuple es k pt::[]) X.env=(false,aO (.Tuple es k pt) X.env)::Yv [] X.env:=by rfl)(qv:(b8 pos<|Yv [.Tuple es k pt] X.env).any (·.1)=false:=by rfl):C3 X (.Call (.Name "isinstance" p) [a,.Tuple es k pt] [] pos) (e1 (oM yes no) f):=by
 have u7:dB X (.builtin "isinstance") (λxs H Q=>∃ι M d x q,xs=[x,.ref q]/\H q=O (.U<|cs.map V.ref)/\aF X.K H ι M/\Rep X.K H ι d x/\au X.K H ι Q (oM yes no d M)):=by
  intro b4 s σ H xs us Q I r q;let⟨ι,M,d,x,tp,rfl,et,S,rd,q⟩:=q;let⟨u,w',rfl,ru,lV⟩:=vals2 r;cases lV;let⟨t,Hc,b,kx,hh,hl,ht,hq⟩:=lZ I S rd ru hk q;let⟨_,b6,rt,ptt⟩:=(show d9 X.prog X.w H s.heap tp (.U<|cs.map V.ref)from I.i6 tp _ et);obtain rfl:=vr rt;let⟨ob,g1,⟨g2,g3⟩,n,g4⟩:=ptt;have ho:ob={cls:=.type "tuple",dict:=ob.dict,data:=.seq (refsOf cs).toArray n,slots:=ob.slots}:=by cases ob;simp only at g2 g4;subst g2 g4;rfl
  rw[ho]at g1;exact PySem.W.kia_tup kx I.cJ hh g1 ht hl λtk=>⟨.bl b,H,I.tok _,rfl,hq⟩
 refine(Jf u7 hg hm XQ (qG h (qG (Wr hc) zc xE) hs) aaA aaA hs qv).imp λσ H Q ak=>?_;let⟨ι,M,env,S,E,h⟩:=ak;let⟨d,M1,e1,h⟩:=au.bind h;refine⟨ι,M,env,S,E,?_⟩;rw[e1];intro v H1 ι1 x1 S1 r1;refine⟨?_,λtp ht=>?_⟩
 .rw[Ym];exact Yi hl aaA
 .have x2:Ext X.K H1 ι1 (upd H1 tp<|.U<|cs.map V.ref) ι1:=Loose.ext<|.inl ht;exact⟨ι1,M1,d,v,tp,rfl,iw,S1.other (.inl ht)<|S1.fresh ht,r1.mono x2,(h.up x1).up x2⟩
def gV{c:Yh}{cv:V}(hm:X.mg "isinstance" =Yj)(hk:zO X.K yes no [c])(h:C3 X a f)(hv:RelV cv c)(hx:PE X (.Name x p1) (tC cv))(hc:∀u,RelV cv u->u=c)(hg:Gl X "isinstance":=by rfl)(hs:Yv (a::[.Name x p1]) X.env=(false,aO a X.env)::Yv [.Name x p1] X.env:=by rfl)(xE:Yv (.Name x p1::[]) X.env=(false,aO (.Name x p1) X.env)::Yv [] X.env:=by rfl)(qv:(b8 pos<|Yv [.Name x p1] X.env).any (·.1)=false:=by rfl):C3 X (.Call (.Name "isinstance" p) [a,.Name x p1] [] pos) (e1 (oM yes no) f):=by
 have u7:dB X (.builtin "isinstance") (λxs H Q=>∃ι M d x,xs=[x,cv]/\aF X.K H ι M/\Rep X.K H ι d x/\au X.K H ι Q (oM yes no d M)):=by
  intro b4 s σ H xs us Q I r q;let⟨ι,M,d,x,rfl,S,rd,q⟩:=q;let⟨u,w',rfl,ru,lV⟩:=vals2 r;obtain rfl:=hc _ lV;let⟨t,Hc,b,kx,hh,hl,ht,hq⟩:=lZ I S rd ru hk q;have h1:Tw X.K t w'=O b:=by
   unfold yr at ht;split at ht
   .rename_i q;cases ht;exact q
   .rename_i q;rwa[q]
   .cases ht
  exact qt kx I.cJ hh h1 hl λtk=>⟨.bl b,H,I.tok _,rfl,hq⟩
 refine(Jf u7 hg hm XQ (qG h (qG hx zc xE) hs) aaA aaA hs qv).imp λσ H Q ak=>?_;let⟨ι,M,env,S,E,h⟩:=ak;let⟨d,M1,e1,h⟩:=au.bind h;refine⟨ι,M,env,S,E,?_⟩;rw[e1];intro v H1 ι1 x1 S1 r1;exact⟨ι1,M1,d,v,rfl,S1,r1,h.up x1⟩
def Ztw(hm:X.mg "isinstance" =Yj)(hx:X.mg x=O (.ref C))(hk:zO X.K yes no [.ref C])(h:C3 X a f)(EB:Gl X x:=by rfl)(hd:(x==("__debug__":aj))=false:=by decide)(hg:Gl X "isinstance":=by rfl)(hs:Yv (a::[.Name x p1]) X.env=(false,aO a X.env)::Yv [.Name x p1] X.env:=by rfl)(xE:Yv (.Name x p1::[]) X.env=(false,aO (.Name x p1) X.env)::Yv [] X.env:=by rfl)(qv:(b8 pos<|Yv [.Name x p1] X.env).any (·.1)=false:=by rfl):C3 X (.Call (.Name "isinstance" p) [a,.Name x p1] [] pos) (e1 (oM yes no) f):=gV (cv:=.ref C) hm hk h J (za EB hx (v:=.ref C) J hd) (λu q=>q) hg hs xE qv
def Zr5{T:String}(hm:X.mg "isinstance" =Yj)(hx:X.mg x=Yj)(hv:jY x=O (.type T))(hk:zO X.K yes no [.type T])(h:C3 X a f)(EB:Gl X x:=by rfl)(hn:x≠ "__name__":=by decide)(hd:(x==("__debug__":aj))=false:=by decide)(hg:Gl X "isinstance":=by rfl)(hs:Yv (a::[.Name x p1]) X.env=(false,aO a X.env)::Yv [.Name x p1] X.env:=by rfl)(xE:Yv (.Name x p1::[]) X.env=(false,aO (.Name x p1) X.env)::Yv [] X.env:=by rfl)(qv:(b8 pos<|Yv [.Name x p1] X.env).any (·.1)=false:=by rfl):C3 X (.Call (.Name "isinstance" p) [a,.Name x p1] [] pos) (e1 (oM yes no) f):=gV (cv:=.ty T) hm hk h J (Pl EB hx hv (v:=.ty T) J hn hd) (λu q=>q) hg hs xE qv
end
def QJ(es:Array DictEntry):Bool:=es.toList.all λe=>match e.key with
 | .str _ _=>true|_=>false
def Zuy{es:Array DictEntry}(h:QJ es=true):StrKeys es:=λe he=>by
 have:=jh.mp h e<|MU.mpr he;split at this
 .rename_i n t q;exact⟨n,t,q⟩
 .cases this
section
variable {K:Yb} {h:aH} {a:Yy} {oc:Yh} {od:Option Yy} {es:Array DictEntry} {ep:Nat} {sl:Array (Option Yh)}
def zi(X:K.In h)(l:K.lookup a=O ⟨oc,od,.dict es ep,sl⟩)(AaW:QJ es=true):h.Ns a (nsFind es):=⟨_,es,ep,X _ _ l,rfl,Zuy AaW,λ_=>rfl⟩
def Zqj{c:b9}{C C':Yy}(x:ClsAt K c C)(y:ClsAt K c C'):C'=C:=by have:=y.symm.trans x;cases this;rfl
def Cq{P:Yy->Prop}:∀c C,([]:d6).contains c=true->ClsAt K c C->P C:=λc C z=>by cases z
def QK{P:Yy->Prop}{k:b9}{ks:d6}{C1:Yy}(x:ClsAt K k C1)(p:P C1)(t:∀c C,ks.contains c=true->ClsAt K c C->P C):∀c C,(k::ks).contains c=true->ClsAt K c C->P C:=λc C z ao=>by
 rw[Uy,yS]at z;rcases z with z|z
 .rw[beq_iff_eq.mp z]at ao;rwa[Zqj x ao]
 .exact t c C z ao
end
section
variable {X:Cx} {tg:Expr} {pos:a_}
def Zvi{iter:Expr}{body:List Ydv}{i:I3}{g:G3}{u:S3}(hp:Uk (aA X.prog X.w) X.A X.env X.xe)(hc:X.calm=true)(hi:CI X tg iter i)(hg:CG X tg g)(hb:vN X true body u)(hs:∀x,Ao iter X.env x=pure x:=by intro _;rfl):
  vM X true (.For tg iter body [] pos) (Jz i g u):=(PV hp hc hi hg hb hs).imp λD σ H ak=>by
 let⟨ι,M,env,S,E,h⟩:=ak;unfold Jz at h;cases q:i env M with
 |exc x M1=>rw[q]at h;cases h|bad=>rw[q]at h;cases h|ok it M1=>
  rw[q]at h;refine⟨ι,M,env,S,E,?_⟩;rw[q];intro i4 H1 ι1 x1 S1 ok;refine⟨λi m σ2 H2=>m=B it.items-i/\i<=B it.items/\∃ι2 M2 kI,Ext X.K H1 ι1 H2 ι2/\aF X.K H2 ι2 M2/\bT X.K H2 ι2 kI σ2/\uq X true σ2 H2 ι2 D (iz it g u (it.items.drop i) kI M2),
   ⟨_,rfl,g_ _,ι1,M1,env,Ext.refl,S1,E.mono x1,uq.up x1 nofun h⟩,?_⟩
  rintro i m σ2 H2 ⟨rfl,hi,ι2,M2,kI,x2,S2,E2,h2⟩;by_cases j1:i<it.items.length
  .have hd:it.items[i]?=O it.items[i]:=by simp[j1]
   rw[yI j1]at h2
   first|rw[rK]at h2|rw[w6]at h2
   by_cases lk:locked it M2=true
   .rw[c_ lk]at h2;let⟨go,yl⟩:=(ok i H2 ι2 M2 x2 S2 lk).1 _ hd;cases eg:g it.items[i] kI with
    |none=>rw[eg]at h2;exact h2.elim|some Ak=>
     rw[eg]at h2;refine .inr ⟨go,λσ' H'=>∃ι3 M3 qZ,Ext X.K H2 ι2 H' ι3/\aF X.K H' ι3 M3/\bT X.K H' ι3 qZ σ'/\uq X true σ' H' ι3 D (iz it g u (it.items.drop<|i+1) qZ M3),
      λσ' H' ⟨ι3,M3,qZ,x3,S3,E3,h3⟩=>⟨B it.items-(i+1),b5,rfl,j1,ι3,M3,qZ,x2.trans x3,S3,E3,h3⟩,λx H' hy=>?_⟩
     let⟨rfl,rx⟩:=yl x H' hy;refine⟨ι2,M2,kI,_,Ak,S2,E2,rx,eg,λσ' E'=>⟨ι2,M2,Ak,S2,E',?_⟩⟩;cases qu:u Ak M2 with
     |nx e' M'=>simp only[qu]at h2;exactλσ' H' ι' x' S' E'=>⟨ι',M',e',x',S',E',h2.up x' nofun⟩|ct e' M'=>simp only[qu]at h2;exactλσ' H' ι' x' S' E'=>⟨ι',M',e',x',S',E',h2.up x' nofun⟩|bk e' M'=>simp only[qu]at h2;exact h2|rt d M'=>simp only[qu]at h2;exact h2
     |exc x' M'=>simp only[qu]at h2;exactλσ'' a C H' ι' _=>h2 σ'' a C H' ι' nofun|bad=>simp only[qu]at h2;exact h2.elim
   .rw[d4 lk]at h2;exact h2.elim
  .have e0:i=B it.items:=fY hi<|k_ j1;subst e0;rw[NZ]at h2
   first|rw[rK]at h2|rw[w6]at h2
   by_cases lk:locked it M2=true
   .rw[c_ lk]at h2;exact .inl ⟨(ok _ H2 ι2 M2 x2 S2 lk).2 J,h2 σ2 H2 ι2 Ext.refl S2 E2⟩
   .rw[d4 lk]at h2;exact h2.elim
end
def Gi(K:Yb)(d:List aj)(v:Yh):Bool:=match v with
 | .ref a=>(match K.lookup a with
  |some o=>o.cls== .type "tuple" &&o.dict.isNone&&(match o.data with| .seq vs _=>decide (vs.size<=1000)&&KTD.strsLook vs.toList d|_=>false)
  |none=>false)
 |_=>false
def qc(t:Qh):List (aj×List aj):=t.map λp=>(⟨kb p.1⟩,p.2.map λy=>⟨kb y⟩)
def du(K:Yb)(d:List aj)(v:Yh):Prop:=∃a,v= .ref a/\∀H,dJ K H a<|d.map V.str
def Zqi:∀{vs:List Yh} {d:List aj},StrsAre vs d->Vals (d.map V.str) vs:=by
 intro vs d h
 induction h with
 |nil=>exact .nil|cons _ _ _ ih=>exact .cons ⟨_,rfl⟩ ih
def fB{K:Yb}{d:List aj}{v:Yh}(h:Gi K d v=true):du K d v:=by
 unfold Gi at h;split at h
 .rename_i a;refine⟨a,rfl,λH=>?_⟩;split at h
  .rename_i o ho;simp only[gO]at h;let⟨⟨h1,h2⟩,h3⟩:=h;split at h3
   .rename_i vs n hd;simp only[gO,decide_eq_true_eq]at h3;exact .inr ⟨o,vs,n,ho,⟨beq_iff_eq.mp h1,by simpa using h2⟩,hd,Yi h3.1 (by rw[uU];decide),Zqi<|KTD.strs_of_look h3.2⟩
   .cases h3
  .cases h
 .cases h
abbrev k6(K:Yb)(a:Yy)(t:Qh):Prop:=KTD.tabLook (Gi K) (λb=>K.lookup b) a (qc t)=true
def k6.at{K:Yb}{a:Yy}{t:Qh}{h:aH}(T:k6 K a t)(X:K.In h):tY (du K) h a (qc t):=MH (λ_ _ q=>fB q) X T
theorem wx{K:Yb}{H:Hp}{ι:List Yy}:∀ds:d6,aB K H ι (ds.map D.str)<|(ds.map λy=>(⟨kb y⟩:aj)).map V.str
 |[]=>aB.nil|_::ds=>aB.cons Rep.str<|wx ds
section
variable {prog:Y9} {w:aQ} {A:bG} {E:Yh->Yl->Prop} {s:Yl} {a:Yy} {K:Yb} {t:Qh} {x:b9} {tk:gq}
def vQ{δ:Type}{R:δ->Yh->Prop}{T:List (aj×δ)}(h:tY R s.heap a T):s.TypeIs (.ref a) "dict":=let⟨_,o,_,_,ho,hc,_⟩:=h;⟨o,ho,hc.1⟩
def YW{δ:Type}{R:δ->Yh->Prop}{T:List (aj×δ)}{k:aj}{Q:Option Yh->Yl->Prop}(h:tY R s.heap a T)(hs:∀d v,qC k T=O d->R d v->Q (O v) {s with toks:=s.toks+1})(hn:qC k T=Yj->Q Yj {s with toks:=s.toks+1}):aq (aA prog w) A (yE a<|.str k tk) Q E s:=by
 let⟨_,o,es,ep,ho,hc,hd,hr⟩:=h;unfold yE
 try with_reducible refine fW ?_
 refine Yc (JE<|Yc<|KTD.kt_dictFind_strs (s:={s with toks:=s.toks+1}) ho hd (by let⟨es⟩:=es;simpa using hr.exact) ?_);have key:Q (findBy (λq v=>v.isStr q) es k) {s with toks:=s.toks+1}:=by
  rw[show findBy (λq v=>v.isStr q) es k=(es.toList.find? λz=>z.key.isStr k).map (·.val)by let⟨es⟩:=es;simp[findBy]];cases e:qC k T with
  |none=>rw[hr.find_none e];exact hn e|some d=>let⟨v,hv,r⟩:=hr.find_some e;rw[hv];exact hs d v e r
 rw[findBy_of_findIdx?]at key;cases e:es.findIdx? λz=>z.key.isStr k with
 |none=>rw[e]at key;exact Yr key|some j=>rw[e]at key;exact Yc<|Jn (s:={s with toks:=s.toks+1}) ho hd<|Yr key
end
open AutoSeq1 (wpAny_loadPart')
set_option maxRecDepth 100000
def ZmK{prog:Y9}{w:aQ}{A:bG}{it:Yy}{fp:List Yy}{n:Nat}{P:Nat->Yh->Prop}{St:Nat->aH->Prop}(D:Draws prog w A it fp n P St):
  Draws prog w A it fp (n+1) (λi v=>P (i-1) v) (λi h=>∃j,i=j+1/\St j h)where
 live:=λi h ⟨j,_,st⟩=>D.live j h st
 frame:=λi h h' ⟨j,e,st⟩ hk=>⟨j,e,D.frame j h h' st hk⟩
 item:=λi s Q E hi st hQ=>by let⟨j,rfl,st⟩:=st;exact D.item j s Q E (Nat.lt_of_succ_lt_succ hi) st λx h' tk hp tJ hs=>hQ x h' tk hp ⟨j+1,rfl,tJ⟩ hs
 done:=λs Q E st hE=>by let⟨j,e,st⟩:=st;cases VR e;exact D.done s Q E st hE
def ZnK(l:Yy)(items:Array Yh)(n:Nat)(qq:Option Yy)(sl:Array (Option Yh))(t:gq):
  Meets (Builtin.«enumerate.__new__» ⟨[.type "enumerate",.ref l],[("start",.int 1 t)]⟩) (λ_ R s=>s.heap.get? l=O {cls:=.type "list",dict:=qq,data:=.seq items n,slots:=sl}/\
   R (.ok<|.ret<|.ref (s.heap.push {cls:=.type "list_iterator",data:=.fields #[.ref l,.int 0 0]}).objs.size)
    {s with heap:=(s.heap.push {cls:=.type "list_iterator",data:=.fields #[.ref l,.int 0 0]}).push {cls:=.type "enumerate",data:=.fields #[.none,.bool false,.ref<|c6 s,nU 1,.none,.none]}}):=
 .of_wp λprog w A R s h=>by
  let⟨hp,g,d,tk,os⟩:=s;let⟨hl,h⟩:=h;have xB:=sub_enumerate;have hL:Heap.IsList (Shared.heap ⟨hp,g,d,tk,os⟩) l items:=⟨_,hl,rfl,n,rfl⟩
  wp_walk using uR hl
  refine Kb λst=>Yr ?_;split
  .rename_i c _ _ _ _ _;cases(c==Value.type "enumerate")
   .wp_walk using uR hl,yt hL
    exact⟨_,rfl,h⟩
   .wp_walk using uR hl,yt hL
    exact⟨_,rfl,h⟩
  .wp_walk using uR hl,yt hL
   exact⟨_,rfl,h⟩
def Zoe(a b:Yh):checkTypeCall "enumerate" ⟨[a],[("start",b)]⟩=pure ():=by kernel_rfl
def Zqv(a b:Yh):Ed "enumerate.__new__" ⟨[.type "enumerate",a],[("start",b)]⟩=pure ():=by kernel_rfl
theorem Zo5(o a b:Yh):argsOk "object.__init__" ⟨[o,a],[("start",b)]⟩:=by unfold argsOk;rw[signature?_of (id:="object.__init__") (n:=['_','_','t','i','n','i','_','_']) (o:=['t','c','e','j','b','o']) aaD F.owner_object];kernel_rfl
theorem Znn{self a b:Yh}:Meets (Builtin.«object.__init__» ⟨[self,a],[("start",b)]⟩) (λ_ R s=>s.TypeIs self "enumerate" /\R (.ok<|.ret .none) s):=by
 have hl:=F.called_enumerate.init.lookup;have hm:=F.called_enumerate.made;refine Meets.of_wp λprog w A R s hs=>?_;let⟨hT,hq⟩:=hs
 repeat(any_goals(first|assumption|wp_step))
 exact⟨_,rfl,hq⟩
theorem ZoO{prog:Y9}{w:aQ}{A:bG}{E:Yh->Yl->Prop}{s:Yl}{l:Yy}{items:Array Yh}{t:gq}{Q:Yh->Yl->Prop}(hL:s.heap.IsList l items)(h:∀h',Ax h' (c6 s+1) (c6 s) 1 .none->h'.IsListIter (c6 s) l 0->(∀b o,s.heap.get? b=O o->h'.get? b=O o)->Q (.ref<|c6 s+1) {s with heap:=h'}):
  aq (aA prog w) A (call (.type "enumerate") [.ref l] [("start",.int 1 t)]) Q E s:=by
 let⟨⟨c,qq,dt,sl⟩,hl,hc,n,hd⟩:=hL;replace hc:c= .type "list":=hc;replace hd:dt= .seq items n:=hd;subst hc hd;have ft:=NB;let⟨c,tl,EC⟩:=ft.mro;have hmade:=ft.made;have xB:=ft.sub;have hct:=Zoe (.ref l)<|.int 1 t;have Cn:=Zqv (.ref l)<|.int 1 t;refine q9<|T4 (show aq _ _ (callAny (.type "enumerate") _) _ _ _ from ?_);refine Yr ⟨A1 _ aaE,yw F.entry_type_call<|?_⟩;rw[NJ (IU _ _ _)<|units_type_call_type _ _ _];have h1:=ft.notType;have h2:=ft.canCreate
 repeat(any_goals(first|assumption|wp_step))
 have hz:(s.heap.push {cls:=.type "list_iterator",data:=.fields #[.ref l,.int 0 0]}).objs.size=c6 s+1:=yQ ..;have g0:=ZnK l items n qq sl t prog w A.in1 (wants (λobj s₁=>s₁.TypeIs obj "enumerate" /\Q obj s₁) E) s ⟨hl,by
  show _/\_;rw[hz];have he:Ax ((s.heap.push {cls:=.type "list_iterator",data:=.fields #[.ref l,.int 0 0]}).push {cls:=.type "enumerate",data:=.fields #[.none,.bool false,.ref<|c6 s,nU 1,.none,.none]}) (c6 s+1) (c6 s) 1 .none:=by have q:=Y6 (s.heap.push {cls:=.type "list_iterator",data:=.fields #[.ref l,.int 0 0]}) (o:={cls:=.type "enumerate",data:=.fields #[.none,.bool false,.ref<|c6 s,nU 1,.none,.none]}) J;rwa[hz]at q
  exact⟨⟨_,he,rfl⟩,h _ he ⟨_,Yn _<|Y6 _ J,rfl,rfl⟩ λb o x=>Yn _<|Yn _ x⟩⟩
 refine tE (wG ft.plain Nl<|Ng Cn g0) λr s₁ hr=>?_;cases r with
 |error e=>exact hr|ok fl=>
  cases fl with
  | ret obj=>
   let⟨hT,hq⟩:=hr;have hli:=ft.init.lookup;have WO:=ft.init.bind obj
   repeat(any_goals(first|assumption|wp_step))
   refine tE (wG ft.init.plain F.entry_object_init<|ft.init.check _ _ _ _ _ _ _ _ hT (Zo5 obj _ _)<|Znn prog w A.in1 (wants (λr s₂=>r= .none/\Q obj s₂) E) s₁ ⟨hT,rfl,hq⟩) λAaX s₂ YX=>?_;cases AaX with
   |error e=>exact YX|ok fl₂=>
    cases fl₂ with
    |ret r=>
     let⟨rfl,hq⟩:=YX
     repeat(any_goals(first|assumption|wp_step))
    |_=>exact YX.elim
  |_=>exact hr.elim
def gk(S:Hp->List V->Prop):It:=⟨λi H=>∃xs x,S H xs/\xs[i]?=O x,λi H x H'=>∃A a,x= .ref A/\H A=Yj/\H'=upd H A (.U [.int ((i+1:Nat):Int),a])/\∀xs,S H xs->xs[i]?=O a,
 λi H=>∃xs,S H xs/\xs.length<=i⟩
def ZnZ{P:Y9}{w:aQ}{K:Yb}{es:List Expr}{k:Nat}{pos:a_}(a e it:Yy)(qA:e≠it):
  Turn P w K (.Tuple es k pos) (gk λH xs=>bV K H a xs) [e,it] e (λi h=>(∃old,Ax h e it ((i+1:Nat):Int) old)/\h.IsListIter it a i)where
 mem:=by simp
 obj:=λi h st b hb=>by
  let⟨⟨old,he⟩,o,ho,c,d⟩:=st;simp only[Yo,rm,or_false]at hb;rcases hb with rfl|rfl
  .exact⟨_,he,λv z=>by cases z⟩
  .exact⟨o,ho,λv z=>by rw[d]at z;cases z⟩
 keep:=λi h h' st k=>by let⟨⟨old,he⟩,hit⟩:=st;exact⟨⟨old,k e i9 _ he⟩,hit.at λo q=>k it i9 o q⟩
 item:=by
  intro X hP hw hK hc i b4 s σ H E I hf st hg;subst hP hw hK;let⟨xs,x,hq,hx⟩:=hg;let⟨b6,rv,p,hz⟩:=I.list hq;let⟨u,hu,ru⟩:=rv.get hx;let⟨⟨old,he⟩,hit⟩:=st;have A9:=Y3 he;have Bi:it<c6 s:=by let⟨o,ho,_⟩:=id hit;exact Y3 ho
  have YH:e≠a:=by rintro rfl;let⟨o,ho,hc,_⟩:=p.isList;rw[he]at ho;cases ho;exact k9 hc i9
  have EA:a≠it:=by rintro rfl;let⟨o,ho,hc,_⟩:=p.isList;let⟨o',sx,tF,_⟩:=hit;rw[sx]at ho;cases ho;rw[tF]at hc;exact k9 hc i9
  have D:=ZmK<|Draws.list (prog:=X.prog) (w:=X.w) (A:=X.A.in1) (I.ok.hd hc) it a EA b6.toArray;refine IL (i:=i+1) D he ⟨i,rfl,hit,p.isList⟩ (by simpa using(Yg.mp hu).1) qA (by simp[qA,YH]) λy h' tk hy ho r_ hT sh hk=>?_;have ey:y=u:=by
   have q:b6.toArray[i]?=O u:=by simpa using hu
   have AO:b6.toArray[i]?=O y:=hy;rw[q]at AO;cases AO;rfl
  subst ey;refine⟨_,rfl,TJ (s:={s with heap:=h',toks:=tk+1}) ho λu4 Hj tj=>?_⟩;let⟨I2,n2⟩:=Zip (i:=i+1) (x:=x) (tk':=tk+1) I hf A9 Bi ru hT hk tj;let⟨j,ej,r_,_⟩:=r_;cases VR ej;exact⟨.ref<|c6 s,_,I2,rfl,⟨_,x,rfl,I.i6.fresh<|Yu _,rfl,λys hy=>by rwa[I.Su hy hq]⟩,⟨⟨_,by simpa using Hj⟩,r_.extBut tj.extBut<|cu qA⟩,n2⟩
 done:=by
  intro X hP hw hK hc i b4 s σ H E I hf st hg;subst hP hw hK;let⟨xs,hq,hx⟩:=hg;let⟨b6,rv,p,hz⟩:=I.list hq;let⟨⟨old,he⟩,hit⟩:=st;have hl:=rv.length;have hT:s.TypeIs (.ref e) "enumerate":=⟨_,he,rfl⟩;unfold wJ;refine Yc (Hx (Al (name:=rC "__next__") hT Ox
   (yu Ox hT Nc (show aq _ _ (field (.ref e) 2>>=λo=>_) _ _ _ from ?_)<|MZ _)))
  refine Yc<|o_ he J (x:=.ref it) J<|Yc ?_;refine wpAny_nextOf_list_end (I.ok.hd hc) hit p.isList r0 λh' x we wd=>?_;let⟨o,ho,hc⟩:=wd;refine Yc<|JU (T:="StopIteration") (b:=true) ⟨o,ho,hc⟩ isSubtype_stop<|Yr ?_;exact⟨rfl,I.Mg (t':=s.toks) (λb o hb q=>we b o (λz=>hb<|by simp[z]) q) hf⟩
 self:=λ_ _ _ _ _ st h=>by let⟨⟨old,he⟩,_⟩:=st;exact Eb he h
section
variable {X:Cx} {es:List Expr} {k:Nat} {a:Expr} {p pos rV kp cp:a_} {f:E3}
def Zu5(K:Yb)(ta:TA):TI:=λσ H R=>ta σ H λvs H1=>∃b,vs=[.ref b]/\∃xs,bV K H1 b xs/\R (gk λH xs=>bV K H b xs) H1
def ZlW{M:Model}{A:bG}{E:Yh->Yl->Prop}{s:Yl}{env:dz}{T:String}{e:Expr}{sT:List Keyword}{Q:Yh->Yl->Prop}(h:aq M A (HJ<|b8 pos<|Yv [e] env) (λvs s₁=>aq M A (Np<|(jN pos<|jL sT env).map (·.2))
   (λd5 s₂=>aq M A (call (.type T) vs<|((jN pos<|jL sT env).filterMap (·.1)).zip d5) Q E s₂) E s₁) E s)(he:b8 pos (Yv [e] env)=[(false,aO e env)])(rj:(jN pos<|jL sT env).all (·.1.isSome)=true)(ED:(jN pos<|jL sT env).any (·.1.isNone)=false):
  aq M A (Ei pos (.type T) [] (b8 pos<|Yv [e] env)<|jN pos<|jL sT env) Q E s:=by
 rw[he]at h |-;unfold Ei;refine Yc (fW (gD (MA (Q:=λa s₁=>aq M A (call (.type T) a.pos a.kw) Q E s₁) rj h) (λa s₁ h₁=>Yc<|tD ?_) λ_ _ x=>x));simp only[ED,nY,List.any_nil,Oh];refine Yc<|Yr<|Yc ?_;exact gD h₁ (λr s₂ hr=>Yc<|fW<|Hz<|Yr hr) λ_ _ x=>x
def ZrW{ta:TA}{j}(hg:Gl X "enumerate")(hm:X.mg "enumerate" =Yj)(ha:PA X [a] ta)(he:b8 pos (Yv [a] X.env)=[(false,aO a X.env)]):
  PI X (.Tuple es k rV) (.Call (.Name "enumerate" p) [a] [⟨O "start",.Constant (.int 1) j cp,kp⟩] pos) (Zu5 X.K ta):=by
 intro b4 s σ H R I h;refine Am<|Bm I hg hm boot_enumerate<|ZlW (aP (ha pos b4 s σ H _ I h) λus s1 ak=>?_) he J J;let⟨vs,H1,I1,r1,q1⟩:=ak;refine aP ((Qb (nm:=O "start") (kpos:=kp) (V8 (j:=j) (pos:=cp) (i:=1)) P9) pos b4 s1 σ H1 (λzs H'=>zs=[.int 1]/\H'=H1) I1 ⟨rfl,rfl⟩) λws s2 JZ=>?_;let⟨zs,H2,I2,rz,rfl,rfl⟩:=JZ;let⟨b,e,xs,hq,q⟩:=q1;subst e;cases r1 with
 | cons r rr=>
  cases rr
  cases r
  cases rz with
  | cons r' rr=>
   cases rr
   let⟨t,rfl⟩:=r';have fp:∀c∈[c6 s2+1,c6 s2],jy X b4 H2 c:=λc hc=>by
    have tF:c6 s2<=c:=by simp only[Yo,rm,or_false]at hc;rcases hc with rfl|rfl <;>omega
    exact I2.yj tF<|I2.i6.fresh tF
   let⟨b6,rv,pl,hz⟩:=I2.list hq;refine ZoO (t:=t) pl.isList λh' hE hI hk=>?_;have I3:Inv X b4 σ H2 {s2 with heap:=h'}:=I2.kept (t':=s2.toks) hk;exact Eb (s:={s2 with heap:=h'}) hE ⟨_,[c6 s2+1,c6 s2],_,_,H2,rfl,I3,ZnZ b _ _<|U8 _,⟨⟨_,hE⟩,hI⟩,fp,q⟩
def Zrl{j}(hm:X.mg "enumerate" =Yj)(h:C3 X a f)(hg:Gl X "enumerate":=by rfl)(he:b8 pos (Yv [a] X.env)=[(false,aO a X.env)]:=by rfl)(xi:Yv (a::[]) X.env=(false,aO a X.env)::Yv [] X.env:=by rfl):
  B8 X (.Tuple es k rV) (.Call (.Name "enumerate" p) [a] [⟨O "start",.Constant (.int 1) j cp,kp⟩] pos) (W8 f):=
 PI.imp (ZrW hg hm (Zc h Zg xi) he) λσ H R ak=>by
  let⟨ι,M,env,S,E,h⟩:=ak;let⟨d,M1,e1,h⟩:=Ge.bind h;refine⟨ι,M,env,S,E,?_⟩;have e2:Za f Ze env M= .ok [d] M1:=by unfold Za;rw[e1];rfl
  rw[e2];intro vs H1 ι1 x1 S1 r1;let⟨v,ws,rfl,r,q⟩:=r1.cons_inv;have:=q.nil_inv;subst this;cases d with
  | ref n=>
   cases hm:M1[n]? with
   |none=>simp only[hm]at h;cases h|some o=>
    cases o with
    | L ds=>
     simp only[hm]at h;let⟨b,ha,rfl⟩:=r.fG;let⟨vs,q,r⟩:=S1.obj n _ b hm ha;refine⟨b,rfl,vs,bV.of q,h _ H1 ι1 x1 S1 ?_⟩;intro i H2 ι2 M2 x S2 lk;have JG:M2[n]?=O (.L ds):=by simpa[lA]using lk
     let⟨vk,q2,r2⟩:=S2.obj n _ b JG<|x.pre _ _ ha;refine⟨λd hd=>?_,λhl=>⟨vk,bV.of q2,by rw[r2.length,hl,Qg];exact Yu _⟩⟩;rw[Qf,l_ 1 i]at hd;cases hq:ds[i]? with
     |none=>rw[hq]at hd;cases hd|some d0=>rw[hq]at hd;cases hd;let⟨v,hv,rv⟩:=r2.get hq;refine⟨⟨vk,v,bV.of q2,hv⟩,λy H3 hy=>?_⟩;let⟨T,y',rfl,hT,rfl,rj⟩:=hy;have e:=rj vk<|bV.of q2;rw[hv]at e;cases e;exact S2.wz hT<|aB.cons Rep.int<|aB.cons rv aB.nil
    |_=>simp only[hm]at h;cases h
  |_=>cases h
end
end L3
namespace L3
open PySem PySem.Spec PyProof.Rows L2
def lS(i:Int)(v:Yh):Bool:=match v with
 | .int j _=>decide (j=i)|_=>false
def l8(i:Int)(v:Yh):Prop:=∃t,v= .int i t
variable{i:Int}
def Zug{v:Yh}(h:lS i v=true):l8 i v:=by
 cases v with
 |int j t=>exact⟨t,by rw[of_decide_eq_true (show decide (j=i)=true from h)]⟩|_=>exact ft h
def Gj(t:nA):List (aj×Int):=t.map λp=>(⟨kb p.1⟩,p.2)
abbrev oW(K:Yb)(a:Yy)(t:nA):Prop:=KTD.tabLook lS (λb=>K.lookup b) a (Gj t)=true
def oW.at{K:Yb}{a:Yy}{t:nA}{h:aH}(T:oW K a t)(X:K.In h):tY l8 h a (Gj t):=MH (λ_ _ q=>Zug q) X T
theorem Gk(x:b9):∀t:nA,qC (⟨kb x⟩:aj) (Gj t)=cQ x t
 |[]=>rfl|(k,v)::r=>by
  show(if decide ((⟨kb x⟩:aj)=⟨kb k⟩)=true then O v else qC ⟨kb x⟩ (Gj r))=(if x=k then O v else cQ x r);by_cases e:x=k
  .subst e;rw[c_ J,c_<|j2 J]
  .rw[d4 e,d4 (by simp[e]),Gk x r]
variable{Q:Yh->Yl->Prop}{δ:Type}
section
variable {prog:Y9} {w:aQ} {A:bG} {E:Yh->Yl->Prop} {s:Yl} {a:Yy} {K:Yb} {tk:gq}
def ZsW{R:δ->Yh->Prop}{l:List DictEntry}{T:List (aj×δ)}(h:KTD.Rows R l T):∀e∈l,∃x t,e.key= .str x t:=by
 induction h with
 |nil=>intro e he;cases he|cons hk _ _ ih=>
  intro e he;rcases Yo.mp he with q|q
  .rw[q];exact⟨_,_,hk⟩
  .exact ih e q
def Zqp{R:δ->Yh->Prop}{T:List (aj×δ)}{Q:Option Yh->Yl->Prop}(h:tY R s.heap a T)(hn:Q Yj {s with toks:=s.toks+1}):aq (aA prog w) A (yE a<|.int i tk) Q E s:=by
 let⟨_,o,es,ep,ho,hc,hd,hr⟩:=h;have hs:∀e∈es,∃x t,e.key= .str x t:=λe he=>ZsW hr e (by simpa using he);unfold yE
 try with_reducible refine fW ?_
 refine Yc<|JA<|Yc ?_;unfold dictFind
 try with_reducible refine fW ?_
 refine Yc<|Jn (s:={s with toks:=s.toks+1}) ho hd ?_;dsimp only;rw[if_pos]
 .unfold dictWalkPlain;refine Yc ?_;refine wpAny_forIn_list _ (λ_ b s'=>s'={s with toks:=s.toks+1}/\b=(Yj,())) _ ?_ ?_ _ _ ⟨rfl,rfl⟩
  .rintro x rest b s' ⟨rfl,rfl⟩;cases he:es[x]? with
   |none=>exact Yr ⟨rfl,rfl⟩|some e=>
    let⟨y,t,ek⟩:=hs e<|MS he;dsimp only;by_cases hh:(e.hash==hashInt i)=true
    .rw[c_ hh,ek];refine Yc<|Ki (s:={s with toks:=s.toks+1}) ho hd<|Yc<|O4 y t i tk prog w E _<|Yc<|Ki (s:={s with toks:=s.toks+1}) ho hd ?_;show aq _ _ (if(ep !=ep)=true then _ else _) _ E _;rw[d4 i9];exact Yc<|Ni<|Yr ⟨rfl,rfl⟩
    .rw[d4 hh];exact Yr ⟨rfl,rfl⟩
  .rintro b s' ⟨rfl,rfl⟩;exact Yr<|Yr hn
 .rw[lQ];refine Ybi.mpr ⟨rfl,jh.mpr λv hv=>?_⟩;let⟨j,_,hj⟩:=NQ.mp hv;cases he:es[j]? with
  |none=>rw[he]at hj;cases hj|some e=>
   rw[he]at hj;obtain rfl:e.key=v:=by simpa using hj
   let⟨y,t,ek⟩:=hs e<|MS he;rw[ek];rfl
def ZoX{R:δ->Yh->Prop}{T:List (aj×δ)}{k:aj}{z:Yh}:
  MeetsIn prog w (Builtin.«dict.get» ⟨[.ref a,.str k tk,z],[]⟩) λ_ Z s=>tY R s.heap a T/\(∀d v,qC k T=O d->R d v->Z (.ok<|.ret v) {s with toks:=s.toks+1})/\(qC k T=Yj->Z (.ok<|.ret z) {s with toks:=s.toks+1}):=
 .of_wp λA Z s zz=>by let⟨h,h1,h2⟩:=zz;show aq _ _ (yE a (.str k tk)>>=λo=>_) _ _ s;refine Yc<|YW h (λd v e r=>Yr ⟨v,rfl,h1 d v e r⟩) λe=>?_;show aq _ _ (OC a (.str k tk)>>=λo=>_) _ _ _;exact Yc<|I0 h.1<|Yr ⟨z,rfl,h2 e⟩
def ZnO{R:δ->Yh->Prop}{T:List (aj×δ)}{z:Yh}:
  MeetsIn prog w (Builtin.«dict.get» ⟨[.ref a,.int i tk,z],[]⟩) λ_ Z s=>tY R s.heap a T/\Z (.ok<|.ret z) {s with toks:=s.toks+1}:=
 .of_wp λA Z s zz=>by let⟨h,h2⟩:=zz;show aq _ _ (yE a (.int i tk)>>=λo=>_) _ _ s;refine Yc<|Zqp h ?_;show aq _ _ (OC a (.int i tk)>>=λo=>_) _ _ _;exact Yc<|I0 h.1<|Yr ⟨z,rfl,h2⟩
def Ztn{R:δ->Yh->Prop}{T:List (aj×δ)}{k:aj}{z:Yh}(h:tY R s.heap a T)(h1:∀d v,qC k T=O d->R d v->Q v {s with toks:=s.toks+1})(h2:qC k T=Yj->Q z {s with toks:=s.toks+1}):aq (aA prog w) A (call (.builtin "dict.get") [.ref a,.str k tk,z]) Q E s:=call_meetsIn Vv (vQ h) Nd (Na _ _ _) (ZoX (R:=R) (T:=T)) ⟨h,h1,h2⟩
def Zq5{R:δ->Yh->Prop}{T:List (aj×δ)}{z:Yh}(h:tY R s.heap a T)(h2:Q z {s with toks:=s.toks+1}):aq (aA prog w) A (call (.builtin "dict.get") [.ref a,.int i tk,z]) Q E s:=call_meetsIn Vv (vQ h) Nd (Na _ _ _) (ZnO (R:=R) (T:=T)) ⟨h,h2⟩
end
section
variable {X:Cx} {e e':Expr} {x:aj} {a:Yy} {t:nA} {qr apos f_ pos:a_} {g g':E3}
inductive AeS(t:nA)(y z:V)(H1:Hp)(Q:VK):Prop
 |str (k:b9) (e:y= .str ⟨kb k⟩) (s:∀i,cQ k t=O i->Q (.int i) H1) (n:cQ k t=Yj->Q z H1)
 |int (i:Int) (e:y= .int i) (n:Q z H1)
def ZrN{te zg:TE}(hm:X.mg x=O (.ref a))(ht:oW X.K a t)(he:PE X e te)(we:PE X e' zg)(m:M2 X (.Name x qr) "get" apos e e' f_)(hg:Gl X x)(hd:(x==("__debug__":aj))=false):
  PE X (.Call (.Attribute (.Name x qr) "get" apos) [e,e'] [] f_) (λσ H Q=>te σ H λy H1=>zg σ H1 λz H2=>AeS t y z H2 Q):=by
 intro b4 s σ H Q I h;refine wpAny_Call_method m.base m.SA m.line PySem.F.plainAttrs_dict Vv PySem.F.type_dict_get<|aP (za (v:=.ref a) (u:=.ref a) hg hm J hd b4 s σ H (λv H'=>v= .ref a/\H'=H) I ⟨rfl,rfl⟩) λu s1 ak=>?_;let⟨v,H1,I1,r1,rfl,rfl⟩:=ak;obtain rfl:u=Value.ref a:=r1;have T1:=ht.at I1.cJ;refine⟨vQ T1,λb q=>?_,?_⟩
 .cases q
  let⟨_,ob,_,_,h1,h2,_⟩:=T1;exact⟨ob,h1,h2.2.1⟩
 rw[m.trees];refine VJ J<|VL<|VN<|aP (he b4 s1 σ H1 _ I1 h) λiv s2 ⟨y,H2,I2,ry,q2⟩=>VN<|aP (we b4 s2 σ H2 _ I2 q2) λfv s3 ⟨z,H3,I3,rz,q3⟩=>Of ?_;cases q3 with
 | str k ey hs hn=>
  rw[ey]at ry;let⟨tk,rfl⟩:=ry;refine Ztn (ht.at I3.cJ) (λd v ed rv=>?_) λed=>?_
  .rw[Gk]at ed;let⟨t',rfl⟩:=rv;exact⟨.int d,H3,I3.tok _,⟨t',rfl⟩,hs d ed⟩
  .rw[Gk]at ed;exact⟨z,H3,I3.tok _,rz,hn ed⟩
 |int i ey hn=>rw[ey]at ry;let⟨tk,rfl⟩:=ry;exact Zq5 (ht.at I3.cJ) ⟨z,H3,I3.tok _,rz,hn⟩
def lN(hm:X.mg x=O (.ref a))(ht:oW X.K a t)(he:C3 X e g)(we:C3 X e' g')(m:M2 X (.Name x qr) "get" apos e e' f_:=by exact⟨rfl,rfl,rfl,rfl⟩)(hg:Gl X x:=by rfl)(hd:(x==("__debug__":aj))=false:=by decide):
  C3 X (.Call (.Attribute (.Name x qr) "get" apos) [e,e'] [] f_) (e2 (xu t) g g'):=(ZrN hm ht he we m hg hd).imp λσ H Q ak=>by
 let⟨ι,M,env,S,E,h⟩:=ak;let⟨d,M1,e1,h⟩:=au.bind h;let⟨d2,M2,e2,h⟩:=au.bind h;refine⟨ι,M,env,S,E,?_⟩;rw[e1];intro y H1 ι1 x1 S1 r1;refine⟨ι1,M1,env,S1,E.mono x1,?_⟩;rw[e2];intro z H2 ι2 x2 S2 r2;have h:=(h.up x1).up x2;cases d with
 | str k=>
  cases r1.str_inv
  refine .str k J (λi AaY=>?_) λen=>?_
  .have h:au X.K H2 ι2 Q (match cQ k t with|some i=>.ok (.int i) M2|none=>.ok d2 M2):=h
   rw[AaY]at h;exact au.ok h S2 Rep.int
  .have h:au X.K H2 ι2 Q (match cQ k t with|some i=>.ok (.int i) M2|none=>.ok d2 M2):=h
   rw[en]at h;exact au.ok h S2 r2
 |int i=>
  cases r1.int_inv
  exact .int i J<|au.ok h S2 r2
 |_=>cases h
end
section
variable {X:Cx} {pos:a_}
def Zuq{x:aj}{a:Yy}{ds:d6}(hm:X.mg x=O (.ref a))(ht:Gi X.K (ds.map λy=>(⟨kb y⟩:aj)) (.ref a)=true)(hg:Gl X x:=by rfl)(hd:(x==("__debug__":aj))=false:=by decide):C3 X (.Name x pos) (eC<|.U<|ds.map D.str):=by let⟨b,eb,sq⟩:=fB ht;cases eb;exact xx (v:=.ref a) hm J (λH ι=>Rep.U (sq H)<|wx ds) hg hd
end
noncomputable section
def rZ(q q':D->D->b3->R3 D)(f g h:E3):E3:=λenv M=>(f env M).bind λa M1=>(g env M1).bind λb M2=>(q a b M2).bind λc M3=>match c with
 | .bl true=>(h env M3).bind λd M4=>q' b d M4|.bl false=>.ok (.bl false) M3|_=>.bad
def Zqx(is:List Int):oG (is.map D.int)=O is:=by
 induction is with
 |nil=>rfl|cons i is ih=>show(oG<|is.map D.int).map _=_;rw[ih];rfl
def vR(k:Int):List Int->Int
 |[]=>k|a::r=>r.foldl (λm x=>if x>m then x else m) a
def Cr(k:Int)(ds:c9)(M:b3):R3 D:=match ds with
 |[.ref n]=>Ca M[n]? λxs=>zF ((oG xs).map λis=>D.int<|vR k is) λd=>.ok d M|_=>.bad
def QL{k:Int}{n:Nat}{M:b3}{is:List Int}(h:M[n]?=O (.L<|is.map D.int)):Cr k [.ref n] M= .ok (.int<|vR k is) M:=by show Ca M[n]? _=_;rw[h];show zF ((oG<|is.map D.int).map λis=>D.int<|vR k is) _=_;rw[Zqx];rfl
def Zqk(xs:d6):jB (xs.map D.str)=O xs:=by
 induction xs with
 |nil=>rfl|cons x xs ih=>show(jB<|xs.map D.str).map _=_;rw[ih];rfl
def unlike:d6->d6->d6
 |acc,[]=>acc|acc,x::r=>unlike (if acc.contains x then acc else acc++[x]) r
def J0(ds:c9)(M:b3):R3 D:=match ds with
 |[.ref n]=>Ca M[n]? λxs=>zF ((jB xs).map λss=>D.int ((unlike [] ss).length:Int)) λd=>if B xs<=20 then .ok d M else .bad|_=>.bad
def ZoH{n:Nat}{M:b3}{xs:d6}(h:M[n]?=O (.L<|xs.map D.str))(hl:B xs<=20):J0 [.ref n] M= .ok (.int ((unlike [] xs).length:Int)) M:=by show Ca M[n]? _=_;rw[h];show zF ((jB<|xs.map D.str).map λss=>D.int ((unlike [] ss).length:Int)) _=_;rw[Zqk];show(if(xs.map D.str).length<=20 then R3.ok _ M else .bad)=_;rw[Ym,c_ hl]
theorem oL:∀{xs acc:d6},(acc++xs).Nodup->unlike acc xs=acc++xs
 |[],acc,_=>(iD acc).symm|x::r,acc,h=>by
  have hx:acc.contains x=false:=by rw[List.contains_eq_mem,decide_eq_false_iff_not];intro hm;exact(NT.mp h).2.2 x hm x Ye J
  show unlike (if acc.contains x then acc else acc++[x]) r=_;rw[hx,d4 aaA,oL (by rwa[ju]),ju];rfl
end
noncomputable section
def xN(t:nA)(d:D)(M:b3):R3 D:=match d with
 | .str x=>.ok (.bl (cQ x t).isSome) M|_=>.bad
def Gm(t:nA)(d:D)(M:b3):R3 D:=match d with
 | .str x=>.ok (.bl<|!(cQ x t).isSome) M|_=>.bad
def zP(t:nA)(d:D)(M:b3):R3 D:=match d with
 | .str x=>(match cQ x t with
  |some i=>.ok (.int i) M|none=>.bad)
 |_=>.bad
end
noncomputable section
def ur(a b:D)(M:b3):R3 D:=match a,b with
 | .ref n,.ref m=>(match M[n]?,M[m]? with
  |some (.L x),O (.L [])=>.ok (.bl<|!x.isEmpty) M|_,_=>.bad)
 |_,_=>.bad
def Zsr{n m:Nat}{M:b3}{x:c9}(h:M[n]?=O (.L x))(k:M[m]?=O (.L [])):ur (.ref n) (.ref m) M= .ok (.bl<|!x.isEmpty) M:=by simp only[ur,h,k]
end
noncomputable section
end
section
variable {X:Cx} {a b c:Expr} {f g h:E3} {pos:a_}
def ZsP{op zw:CmpOp}{q q':D->D->b3->R3 D}(ho:bA X (gM op) (r2 X.K q))(sx:bA X (gM zw) (r2 X.K q'))(ha:C3 X a f)(hb:C3 X b g)(hc:C3 X c h)(hm:lastMarks [op,zw] [b,c]=false:=by rfl):CT X (.Compare a [op,zw] [b,c] pos) (rZ q q' f g h):=
 (ZsZ ho sx ha hb hc hm).imp λσ H Q ak=>by
  let⟨ι,M,env,S,E,hh⟩:=ak;let⟨da,M1,e1,hh⟩:=oR.bind hh;refine⟨ι,M,env,S,E,?_⟩;rw[e1];intro v H1 ι1 x1 S1 r1;let⟨db,M2,e2,hh⟩:=oR.bind hh;refine⟨ι1,M1,env,S1,E.mono x1,?_⟩;rw[e2];intro u H2 ι2 x2 S2 r2;let⟨dc,M3,e3,hh⟩:=oR.bind hh;refine⟨ι2,M2,da,db,S2,r1.mono x2,r2,?_⟩;rw[e3];intro w H3 ι3 x3 S3 r3;cases dc with
  | bl k=>
   refine⟨k,r3.iW,?_⟩;cases k with
   |true=>rw[c_ J];let⟨dd,M4,e4,hh⟩:=oR.bind hh;refine⟨ι3,M3,env,S3,E.mono<|(x1.trans x2).trans x3,?_⟩;rw[e4];intro w' H4 ι4 x4 S4 r4;exact⟨ι4,M4,db,dd,S4,r2.mono<|x3.trans x4,r4,JC<|hh.up<|((x1.trans x2).trans x3).trans x4⟩|false=>rw[d4 aaA];exact⟨false,rfl,hh H3 ι3 ((x1.trans x2).trans x3) S3⟩
  |_=>exact hh.elim
end
set_option maxRecDepth 100000
def Zo0(a d:Yh):Ed "max" ⟨[a],[("default",d)]⟩=pure ():=by kernel_rfl
def QM:(yV "max" ++yV ".loop":String)= "max.loop":=by decide
variable{E:Yh->Yl->Prop}
def Zvh{prog:Y9}{w:aQ}{A:bG}{s:Yl}{a b:Int}{t u:gq}(h:Q (.bool<|decide<|a>b) s):aq (aA prog w) A (richCompare .Gt (.int a t)<|.int b u) Q E s:=
 CmpOf.ints_gt (P:=λi v=>if i=0 then v= .int a t else v= .int b u) (λi=>if i=0 then a else b) (λi v hv=>by
  by_cases c:i=0
  .rw[c_ c]at hv |-;exact⟨t,hv⟩
  .rw[d4 c]at hv |-;exact⟨u,hv⟩) 0 1 _ _ s Q E J J h
def Zrz{vs:List Yh}{ns:List Int}(h:IntsAre vs ns):B vs=B ns:=by
 induction h with
 |nil=>rfl|cons n t _ ih=>rw[Yp,Yp,ih]
section
variable {prog:Y9} {w:aQ} {A:bG} {R:ph->Yl->Prop} {I L S:Yy} {vs:List Yh} {ns:List Int} {AaZ:Yh}
def ZuD(hh:A.in1.handled=Yj)(AU:L≠I)(wm:S≠I)(Gn:S≠L)(hi:IntsAre vs ns):∀(k j:Nat) (m:Int) (s:Yl) (tb:gq) (c:Nat),B vs-(j+1)=k->j+1<=B vs->s.heap.IsListIter I L (j+1)->s.heap.IsList L vs.toArray ->
  s.heap.get? S=O {cls:=.type "list",dict:=Yj,data:=.seq #[.int m tb,.int m tb] c,slots:=#[]} ->
  (∀h' t tk,(∀b o,b≠I->b≠S->s.heap.get? b=O o->h'.get? b=O o)->R (.ok<|.ret<|.int ((ns.drop<|j+1).foldl (λm x=>if x>m then x else m) m) t) {s with heap:=h',toks:=tk}) ->
  kO (aA prog w) A (.builtin "max.loop" ⟨[.ref I,.none,.ref S],[("default",AaZ)]⟩) R s:=by
 have W:=O5 (prog:=prog) (w:=w) (A:=A.in1) hh I L AU vs.toArray;have len:B ns=B vs:=(Zrz hi).symm;intro k
 induction k with
 |zero=>
  intro j m s tb c hk hj r_ hL hS hR;have y3:vs.toArray.size=j+1:=by rw[Yt];omega
  refine yw Vz ?_;rw[Io Bd _];refine Yc<|Hu hS J ?_;refine Yc<|Hw<|W.done s _ _ (y3▸⟨r_,hL⟩) λh' tk vt=>?_;have vv:=vt S _ (by simp[wm]) hS;refine Yc ?_;refine T5 vv J<|Yc<|Nh<|Yr ?_;have e:ns.drop (j+1)=[]:=Ny b5;rw[e]at hR;exact hR _ tb _ λb o h1 h2 q=>(pF _ _<|cu h2).trans (vt b o (by simp[h1]) q)
 | succ k ih=>
  intro j m s tb c hk hj r_ hL hS hR;have j1:j+1<B vs:=by omega
  refine yw Vz ?_;rw[Io Bd _];refine Yc<|Hu hS J ?_;refine Yc (Hw<|W.item (j+1) s _ _ (by rwa[Yt]) ⟨r_,hL⟩ λv h' tk hP tS vt=>?_);have vv:=vt S _ (by simp[wm]) hS;obtain⟨x,t,hx,rfl⟩:∃x t,ns[j+1]?=O x/\v= .int x t:=by rw[KL]at hP;let⟨x,t,e,hx⟩:=hi.at (j+1) v hP;exact⟨x,t,hx,e⟩
  have ed:ns.drop (j+1)=x::ns.drop (j+1+1):=by have hl:j+1<B ns:=(Yg.mp hx).1;rw[yI hl,(Yg.mp hx).2]
  rw[ed,rA]at hR;refine Yc<|Yr ?_;refine Yc<|Hw<|fW<|Yc<|Zvh ?_;refine Yc<|fW<|tu ?_;refine Yc<|Nh<|Yr ?_;by_cases hb:x>m
  .rw[c_ hb]at hR;rw[j2 hb];simp only[if_true];refine Yc ?_;refine T5 vv J<|Yc<|Nh ?_;rw[QM];refine Yr ⟨Hy Bd _,ih (j+1) x _ t _ b5 j1 (tS.1.at λo e=>(pF _ _ wm).trans e) (tS.2.at λo e=>(pF _ _ Gn).trans e) (yP _ vv J) λu4 t' tk' wq=>?_⟩;exact hR u4 t' tk' λb o h1 h2 q=>wq b o h1 h2 ((pF _ _<|cu h2).trans<|vt b o (by simp[h1]) q)
  .rw[d4 hb]at hR;rw[j3 hb];simp only[yR,if_false];refine Yc<|Nh ?_;rw[QM];refine Yr ⟨Hy Bd _,ih (j+1) m _ tb c b5 j1 tS.1 tS.2 vv λu4 t' tk' wq=>?_⟩;exact hR u4 t' tk' λb o h1 h2 q=>wq b o h1 h2 (vt b o (by simp[h1]) q)
end
section
variable {prog:Y9} {w:aQ} {A:bG} {E:Yh->Yl->Prop} {s:Yl} {L:Yy} {vs:List Yh} {ns:List Int} {k:Int} {td:gq}
theorem Zqz(hh:A.handled=Yj)(hL:s.heap.IsList L vs.toArray)(hi:IntsAre vs ns)(h:∀h' t tk,(∀b o,s.heap.get? b=O o->h'.get? b=O o)->Q (.int (vR k ns) t) {s with heap:=h',toks:=tk}):aq (aA prog w) A (call (.builtin "max") [.ref L] [("default",.int k td)]) Q E s:=by
 have tB:A.in1.handled=Yj:=hh;have j1:L<c6 s:=by let⟨_,e,_⟩:=hL;exact Y3 e
 refine q9<|wG F.plain_max F.entry_max<|Ng (Zo0 _ _) ?_;refine Yc<|Ng (show Builtin.Builtins.bindParams "max" ["key","default"] 0 ⟨[],[("default",.int k td)]⟩=pure [Yj,O<|.int k td]from rfl) ?_;refine Yc<|Yr ?_;refine Yc<|yt hL ?_;refine Yc<|uT ?_;rw[QM]
 let h1:=s.heap.push {cls:=.type "list_iterator",data:=.fields #[.ref L,.int 0 0]}
 let h2:=h1.push {cls:=.type "list",data:=.seq #[]}
 have e1:h1.objs.size=c6 s+1:=yQ ..;have up:∀b o,s.heap.get? b=O o->h2.get? b=O o:=λb o q=>Yn _<|Yn _ q;have hI:h2.IsListIter (c6 s) L 0:=⟨_,Yn _<|Y6 _ J,rfl,rfl⟩;have qn:h2.IsList L vs.toArray:=(hL.push _).push _;have hS:h2.get? h1.objs.size=O {cls:=.type "list",dict:=Yj,data:=.seq #[] 0,slots:=#[]}:=Y6 _ J;have AU:L≠s.heap.objs.size:=d8 j1;have ls:c6 s<h1.objs.size:=e1▸Es _;have wm:h1.objs.size≠s.heap.objs.size:=Bb ls;have Gn:h1.objs.size≠L:=Bb<|mX j1 ls;have W:=O5 (prog:=prog) (w:=w) (A:=A.in1) tB (c6 s) L AU vs.toArray;have old:∀{h':aH},(∀b o,b≠s.heap.objs.size->b≠h1.objs.size->h2.get? b=O o->h'.get? b=O o)->∀b o,s.heap.get? b=O o->h'.get? b=O o:=λhk b o q=>by exact hk b o (d8<|Y3 q) (d8<|mX (Y3 q) ls)<|up b o q
 refine Yr ⟨Hy Bd _,yw Vz ?_⟩;rw[Io Bd _];refine Yc<|Hu hS J ?_;cases hi with
 |nil=>refine Yc<|Hw<|W.done _ _ _ ⟨hI,qn⟩ λh' tk hk=>?_;refine Yc<|Ni<|Yr ?_;exact h h' td tk (old λb o h1 h2 q=>hk b o (by simp[h1]) q)|cons n t hr=>
  refine Yc<|Hw<|W.item 0 _ _ _ i9 ⟨hI,qn⟩ λv h' tk hP r_ hk=>?_;have vv:=hk _ _ (by simp[wm]) hS;obtain rfl:v= .int n t:=by simpa using hP.symm
  refine Yc<|Yr ?_;refine Yc ?_;refine T5 vv J ?_;rw[QM];refine Yr ⟨Hy Bd _,ZuD tB AU wm Gn (.cons n t hr) _ 0 n _ t _ J i9 (r_.1.at λo e=>(pF _ _ wm).trans e) (r_.2.at λo e=>(pF _ _ Gn).trans e) (yP _ vv J) λu4 t' tk' wq=>?_⟩;exact h u4 t' tk' (old λb o h1 h2 q=>wq b o h1 h2<|(pF _ _<|cu h2).trans<|hk b o (by simp[h1]) q)
end
section
variable {X:Cx} {a:Expr} {p pos kp cp:a_} {f:E3} {k:Int}
def ZyV(K:Yb)(k:Int)(ta:TA):TE:=λσ H Q=>ta σ H λvs H1=>∃b xs ns,vs=[.ref b]/\bV K H1 b xs/\(∀us,Vals xs us->IntsAre us ns)/\Q (.int<|vR k ns) H1
def ZmD{M:Model}{A:bG}{s:Yl}{env:dz}{T:String}{e:Expr}{sT:List Keyword}(h:aq M A (HJ<|b8 pos<|Yv [e] env) (λvs s₁=>aq M A (Np<|(jN pos<|jL sT env).map (·.2))
   (λd5 s₂=>aq M A (call (.builtin T) vs<|((jN pos<|jL sT env).filterMap (·.1)).zip d5) Q E s₂) E s₁) E s)(he:b8 pos (Yv [e] env)=[(false,aO e env)])(rj:(jN pos<|jL sT env).all (·.1.isSome)=true)(ED:(jN pos<|jL sT env).any (·.1.isNone)=false):
  aq M A (Ei pos (.builtin T) [] (b8 pos<|Yv [e] env)<|jN pos<|jL sT env) Q E s:=by
 rw[he]at h |-;unfold Ei;refine Yc (fW (gD (MA (Q:=λa s₁=>aq M A (call (.builtin T) a.pos a.kw) Q E s₁) rj h) (λa s₁ h₁=>Yc<|tD ?_) λ_ _ x=>x));simp only[ED,nY,List.any_nil,Oh];refine Yc<|Yr<|Yc ?_;exact gD h₁ (λr s₂ hr=>Yc<|fW<|Hz<|Yr hr) λ_ _ x=>x
def Zu2{ta:TA}{j}(hg:Gl X "max")(hm:X.mg "max" =Yj)(hc:X.calm=true)(ha:PA X [a] ta)(he:b8 pos (Yv [a] X.env)=[(false,aO a X.env)]):
  PE X (.Call (.Name "max" p) [a] [⟨O "default",.Constant (.int k) j cp,kp⟩] pos) (ZyV X.K k ta):=by
 intro b4 s σ H R I h;refine Am<|Bm I hg hm boot_max<|ZmD (aP (ha pos b4 s σ H _ I h) λus s1 ak=>?_) he J J;let⟨vs,H1,I1,r1,q1⟩:=ak;refine aP ((Qb (nm:=O "default") (kpos:=kp) (V8 (j:=j) (pos:=cp) (i:=k)) P9) pos b4 s1 σ H1 (λzs H'=>zs=[.int k]/\H'=H1) I1 ⟨rfl,rfl⟩) λws s2 JZ=>?_;let⟨zs,H2,I2,rz,rfl,rfl⟩:=JZ;let⟨b,xs,ns,e,hq,hi,q⟩:=q1;subst e;cases r1 with
 | cons r rr=>
  cases rr
  cases r
  cases rz with
  |cons r' rr=>
   cases rr
   let⟨t,rfl⟩:=r';let⟨b6,rv,pl,hz⟩:=I2.list hq;refine Zqz (td:=t) (I2.ok.hd hc) pl.isList (hi b6 rv) λh' t' tk hk=>?_;exact⟨.int<|vR k ns,H2,I2.kept (t':=tk) hk,⟨t',rfl⟩,q⟩
def y5{j}(hm:X.mg "max" =Yj)(h:C3 X a f)(hg:Gl X "max":=by rfl)(hc:X.calm=true:=by rfl)(he:b8 pos (Yv [a] X.env)=[(false,aO a X.env)]:=by rfl)(xi:Yv (a::[]) X.env=(false,aO a X.env)::Yv [] X.env:=by rfl):
  C3 X (.Call (.Name "max" p) [a] [⟨O "default",.Constant (.int k) j cp,kp⟩] pos) (aD (Cr k)<|Za f Ze):=
 (Zu2 hg hm hc (Zc h Zg xi) he).imp λσ H Q ak=>by
  let⟨ι,M,env,S,E,h⟩:=ak;refine⟨ι,M,env,S,E,?_⟩;have h:au X.K H ι Q ((Za f Ze env M).bind λds M'=>Cr k ds M'):=h;cases q:Za f Ze env M with
  |exc _ _=>rw[q]at h;cases h|bad=>rw[q]at h;cases h|ok ds M1=>
   rw[q]at h;intro vs H1 ι1 x1 S1 r1;have h:au X.K H ι Q (Cr k ds M1):=h
   match ds,h,r1 with
   |[],h,_=>cases h|d1::d2::r,h,_=>cases d1<;>cases h|[d],h,r1=>
    cases d with
    |ref n=>let⟨xs,hn,h⟩:=Qm h;let⟨d,hd,h⟩:=JK h;let⟨ns,tN,rfl⟩:=Mu.mp hd;let⟨v,ws,rfl,rv,Cu⟩:=r1;let⟨p,hp,rfl⟩:=rv.fG;let⟨us,e1,r2⟩:=S1.obj n _ p hn hp;rw[show ws=[]from Cu];exact⟨p,us,ns,rfl,.inl<|.inl e1,λb6 rr=>WJ tN r2 rr,au.ok (h.up x1) S1 Rep.int⟩|_=>cases h
end
set_option maxRecDepth 100000
def p6:List aj->List aj->List aj
 |acc,[]=>acc|acc,x::r=>p6 (if acc.any (· ==x)then acc else acc++[x]) r
def any_put(acc:List aj)(x k:aj):(if acc.any (· ==x)=true then acc else acc++[x]).any (· ==k)=(acc.any (· ==k)|| decide (k=x)):=by
 by_cases c:acc.any (· ==x)=true
 .rw[c_ c];by_cases e:k=x
  .rw[e,c];rfl
  .rw[j3 e,Oh]
 .rw[d4 c,List.any_append];congr 1;by_cases e:k=x
  .subst e;simp
  .rw[j3 e];simp[cu e]
section
variable {prog:Y9} {w:aQ} {A:bG} {R:ph->Yl->Prop} {I L S:Yy} {l:List (aj×gq)}
def Zvt(hh:A.in1.handled=Yj)(AU:L≠I)(wm:S≠I)(Gn:S≠L)(hb:B l<=20):∀(k i:Nat) (acc:List aj) (s:Yl),B l-i=k->i<=B l->B acc<=i->s.heap.IsListIter I L i->s.heap.IsList L (nT l).toArray->s.heap.SetOf (strKind prog w) S (λk=>acc.any (· ==k)) (B acc) ->
  (∀h' tk,(∀b o,b≠I->b≠S->s.heap.get? b=O o->h'.get? b=O o)->h'.SetOf (strKind prog w) S (λk=>(p6 acc<|(l.drop i).map (·.1)).any (· ==k)) (p6 acc<|(l.drop i).map (·.1)).length->R (.ok<|.ret .none) {s with heap:=h',toks:=tk}) ->
  kO (aA prog w) A (.builtin "set.update.loop" ⟨[.ref S,.ref I],[]⟩) R s:=by
 have W:=O5 (prog:=prog) (w:=w) (A:=A.in1) hh I L AU (nT l).toArray;have sz:(nT l).toArray.size=B l:=by simp[nT]
 intro k
 induction k with
 |zero=>
  intro i acc s hk hi ha r_ hL hS hR;have y3:(nT l).toArray.size=i:=by omega
  refine yw MQ ?_;rw[Io Vo _];refine Yc<|W.done s _ _ (y3▸⟨r_,hL⟩) λh' tk vt=>?_;have e:l.drop i=[]:=Ny b5;rw[e]at hR;let⟨o,es,ep,t,ho,rest⟩:=hS;exact Yr (hR h' tk (λb o h1 _ q=>vt b o (by simp[h1]) q) ⟨o,es,ep,t,vt S _ (by simp[wm]) ho,rest⟩)
 | succ k ih=>
  intro i acc s hk hi ha r_ hL hS hR;have j1:i<B l:=by omega
  refine yw MQ ?_;rw[Io Vo _];refine Yc<|W.item i s _ _ b5 ⟨r_,hL⟩ λv h' tk hP tS vt=>?_;have hv:v= .str (l[i]'j1).1 (l[i]'j1).2:=by rw[KL]at hP;simp only[nT,jg,Y0 j1,Ti]at hP;exact(fM hP).symm
  have ed:l.drop i=l[i]'j1::l.drop (i+1):=yI j1;rw[ed,Yw]at hR;generalize l[i]'j1=q at hv hR;let⟨x,t⟩:=q;subst hv;have vv:h'.SetOf (strKind prog w) S (λk=>acc.any (· ==k)) (B acc):=by let⟨o,es,ep,tb,ho,rest⟩:=hS;exact⟨o,es,ep,tb,vt S _ (by simp[wm]) ho,rest⟩
  have hx:(strKind prog w).is x (.str x t)=true:=beq_self_eq_true x;have room:B acc+1<Uo:=by have:Uo=4096:=rfl;omega
  refine Yc<|fW ?_;unfold setAdd;refine fW ?_;refine Yc<|(strKind prog w).pyHash (k:=x) hx ?_;refine wpAny_setAddHashed_of (knd:=strKind prog w) hx J vv room λu4 sb hS2=>?_;refine Yr ⟨Hy Vo _,ih (i+1) (if acc.any (· ==x)=true then acc else acc++[x]) _ b5 j1 ?_ (tS.1.at λo e=>(sb.2 I<|cu wm).trans e) (tS.2.at λo e=>(sb.2 L<|cu Gn).trans e) ?_ λh3 tk3 hk3 hS3=>?_⟩
  .by_cases c:acc.any (· ==x)=true
   .rw[c_ c];omega
   .rw[d4 c,Yd,Y8];omega
  .refine SetOf_congr hS2 (λk=>(any_put acc x k).symm) ?_;by_cases c:acc.any (· ==x)=true
   .rw[c_ c,c_ c]
   .rw[d4 c,d4 c,Yd,Y8]
  .exact hR h3 tk3 (λb o h1 h2 q=>hk3 b o h1 h2<|(sb.2 b h2).trans<|vt b o (by simp[h1]) q) hS3
end
abbrev ut(led:Bool):aK:={cls:=.type "set",dict:=Yj,data:=.set #[] 0 (.fresh 0 0 led)}
section
variable {prog:Y9} {w:aQ} {A:bG} {E:Yh->Yl->Prop} {s:Yl} {L:Yy} {l:List (aj×gq)}
def ZqB(hh:A.handled=Yj)(hl:s.heap.IsList L (nT l).toArray)(hb:B l<=20)(led:Bool){R:ph->Yl->Prop}(h:∀h' tk,h'.SetOf (strKind prog w) (c6 s) (λk=>(p6 []<|l.map (·.1)).any (· ==k)) (p6 []<|l.map (·.1)).length->(∀b o,s.heap.get? b=O o->h'.get? b=O o)->R (.ok<|.ret .none) {s with heap:=h',toks:=tk}):
  aq (aA prog w) A.in1 (Builtin.«set.__init__» ⟨[.ref<|c6 s,.ref L],[]⟩) (λfin s'=>match fin with| .done f=>R (.ok f) s'| .again c'=>c'.quiet=true/\kO (aA prog w) A c' R s') (λe s'=>R (.error e) s') {s with heap:=s.heap.push<|ut led}:=by
 have hS:(s.heap.push<|ut led).get? (c6 s)=O (ut led):=Y6 _ J;let⟨ol,xm,u7,nl,xA⟩:=hl;let⟨ocls,BB,odata,AH⟩:=ol;simp only at u7 xA;subst u7 xA;have EE:(s.heap.push<|ut led).get? L=O {cls:=.type "list",dict:=BB,data:=.seq (nT l).toArray nl,slots:=AH}:=Yn _ xm;have f1:=PySem.F.sub_list_set;have f2:=PySem.F.sub_list_frozenset;have f3:(Value.type "list" ==Value.type "dict")=false:=by decide
 have σ6:(s.heap.push<|ut led).IsList L (nT l).toArray:=⟨_,EE,rfl,nl,rfl⟩;have Co:L<c6 s:=Y3 xm;have e1:(s.heap.push<|ut led).objs.size=c6 s+1:=yQ ..;have ls:c6 s<(s.heap.push<|ut led).objs.size:=e1▸Es _;unfold Builtin.«set.__init__» noKeywords Builtin.Frozenset.updateFrom;generalize hPI:Em=PI
 wp_walk
 subst hPI;refine yt σ6 ?_;refine Yc<|wpAny_runValue ?_;refine Zvt (by simp[hh]) (d8<|mX Co ls) (d8 ls) (Bb Co) hb _ 0 [] _ J (g_ _) (Yu _) ⟨_,Y6 _ J,rfl,rfl⟩ (σ6.push _) ?_ λh' tk hk vv=>?_
 .exact SetOf_congr ((setObjOf_fresh (knd:=strKind prog w) led).setOf (Yn _ hS) (by unfold Uo;omega)) (λ_=>rfl) J
 .refine Yr ?_;refine Yr<|h h' tk vv λb o q=>?_;have lb:=Y3 q;exact hk b o (d8<|mX lb ls) (d8 lb)<|Yn _<|Yn _ q
end
set_option maxHeartbeats 1600000 in
def ZqR{prog:Y9}{w:aQ}{A:bG}{s:Yl}{L:Yy}{l:List (aj×gq)}(hh:A.handled=Yj)(hl:s.heap.IsList L (nT l).toArray)(hb:B l<=20)(h:∀h' tk,h'.SetOf (strKind prog w) (c6 s) (λk=>(p6 []<|l.map (·.1)).any (· ==k)) (p6 []<|l.map (·.1)).length->(∀b o,s.heap.get? b=O o->h'.get? b=O o)->Q (.ref<|c6 s) {s with heap:=h',toks:=tk}):
  aq (aA prog w) A (call (.type "set") [.ref L]) Q E s:=by
 let⟨c,tl,EC⟩:=PySem.F.called_set.mro;have g1:=PySem.F.called_set.made;have g2:=PySem.F.called_set.sub;have g3:=PySem.F.called_set.notType;have g4:=PySem.F.called_set.canCreate;have g5:=PySem.F.typeCall_set_1<|.ref L;refine q9<|T4<|Yr ⟨A1 _ aaE,yw PySem.F.entry_type_call ?_⟩;rw[NJ (IU "set" [.ref L] []) J]
 repeat(any_goals(first|assumption|wp_step))
 refine tE (code_set_new_1 (.ref L) (E:=E) (Q₁:=λo s1=>∃led,o= .ref (c6 s)/\s1={s with heap:=s.heap.push<|ut led}) λled=>⟨led,rfl,rfl⟩) λr s1 hr=>?_;cases r with
 |error e=>exact hr|ok fl=>cases fl with
  | ret o=>
   let⟨led,rfl,rfl⟩:=hr;have hS:(s.heap.push<|ut led).get? (c6 s)=O (ut led):=Y6 _ J;have hT:Shared.TypeIs {s with heap:=s.heap.push<|ut led} (.ref<|c6 s) "set":=⟨_,hS,rfl⟩;have k1:=PySem.F.called_set.init.lookup;have k2:=PySem.F.called_set.init.bind<|.ref<|c6 s
   repeat(any_goals(first|assumption|wp_step))
   refine tE (wG (R:=wants (λr s2=>r= .none/\∃h' tk,s2={s with heap:=h',toks:=tk}/\h'.SetOf (strKind prog w) (c6 s) (λk=>(p6 []<|l.map (·.1)).any (· ==k)) (p6 []<|l.map (·.1)).length/\∀b o,s.heap.get? b=O o->h'.get? b=O o) E) PySem.F.called_set.init.plain PySem.F.entry_set_init<|check_set_init_1 hT ?_) λr2 s2 EF=>?_
   .exact ZqB (by simp[hh]) hl hb led λh' tk a b=>⟨rfl,h',tk,rfl,a,b⟩
   .cases r2 with
    |error e=>exact EF|ok f2=>cases f2 with
     |ret r=>
      let⟨rfl,h',tk,rfl,a,b⟩:=EF
      repeat(any_goals(first|assumption|wp_step))
      exact h _ _ a b
     |_=>exact EF.elim
  |_=>exact hr.elim
def QQ(X:Cx)(p:Yy)(n:Nat):HO:=.ext λh=>∃S,h.SetOf (strKind X.prog X.w) p S n
section
variable {X:Cx} {a:Expr} {p p2 q pos:a_} {f:E3}
theorem H6:∀{x:c9} {ts:d6},jB x=O ts->B ts=x.length
 |[],ts,h=>by cases h;rfl|.str y::x,ts,h=>by have h:(jB x).map (y:: ·)=O ts:=h;let⟨r,hr,rfl⟩:=Mu.mp h;rw[Yp,Yp,H6 hr]
 | .Z::_,_,h=>nomatch h|.bl _::_,_,h=>nomatch h|.int _::_,_,h=>nomatch h|.U _::_,_,h=>nomatch h
 | .bB _::_,_,h=>nomatch h|.ref _::_,_,h=>nomatch h
def ZqA(hc:X.calm=true):L2.dB X (.type "set") (λxs H Q=>∃b ys ui,xs=[.ref b]/\bV X.K H b ys/\(∀us,Vals ys us->∃l:List (aj×gq),us=nT l/\l.map (·.1)=ui)/\ui.length<=20/\∀p,H p=Yj->Q (.ref p) (upd H p<|QQ X p (p6 [] ui).length)):=by
 intro b4 s σ H xs us Q I r h;let⟨b,ys,ui,rfl,hq,hi,hl,q⟩:=h;let⟨u,rfl,ru⟩:=vals1 r;cases ru;let⟨b6,rv,pl,hz⟩:=I.list hq;let⟨l,rfl,rfl⟩:=hi b6 rv;rw[Ym]at hl;refine ZqR (I.ok.hd hc) pl.isList hl λh' tk hS hk=>?_;refine⟨.ref<|c6 s,_,I.laid (t':=tk) (o:=QQ X (c6 s) (p6 []<|l.map (·.1)).length) hk (Yu _) ⟨⟨_,hS⟩,?_,?_⟩,rfl,q _<|I.i6.fresh<|Yu _⟩
 .let⟨o,_,_,_,ho,_⟩:=hS;exact⟨o,ho⟩
 .intro _ _ z kk;let⟨S,o,es,ep,t,ho,rest⟩:=z;exact⟨S,o,es,ep,t,kk o ho,rest⟩
def Zq0:L2.dB X (.builtin "len") (λxs H Q=>∃p n,xs=[.ref p]/\H p=O (QQ X p n)/\n<=20/\Q (.int (n:Int)) H):=by intro b4 s σ H xs us Q I r h;let⟨p,n,rfl,hp,hn,q⟩:=h;let⟨u,rfl,ru⟩:=vals1 r;cases ru;let⟨⟨S,o,es,ep,t,ho,hex,hd,_,_,_,hf,sh⟩,_⟩:=I.i6 p _ hp;subst sh;refine call_len_set ho hex hd hf b5 ?_;exact⟨.int (es.size:Int),H,(I.tok _).tok _,⟨_,rfl⟩,q⟩
theorem YZ:∀(xs acc:d6),(p6 (acc.map λt=>(⟨kb t⟩:aj))<|xs.map λt=>(⟨kb t⟩:aj)).length=(unlike acc xs).length
 |[],acc=>Ym ..|x ::r,acc=>by
  have e:(acc.map λt=>(⟨kb t⟩:aj)).any (· ==(⟨kb x⟩:aj))=acc.contains x:=by
   induction acc with
   |nil=>rfl|cons y acc ih=>
    rw[Yw,nY,Uy,ih];congr 1;by_cases c:y=x
    .subst c;simp
    .have:(⟨kb y⟩:aj)≠⟨kb x⟩:=λz=>c (by injection z with z;simpa using congrArg Ez z)
     rw[beq_eq_false_iff_ne.mpr this,beq_eq_false_iff_ne.mpr<|cu c]
  show(p6 (if(acc.map λt=>(⟨kb t⟩:aj)).any (· ==(⟨kb x⟩:aj))then _ else _) _).length=(unlike (if acc.contains x then acc else acc++[x]) r).length;rw[e];by_cases c:acc.contains x=true
  .rw[c_ c,c_ c];exact YZ r acc
  .rw[d4 c,d4 c];have:=YZ r<|acc++[x];rwa[fX]at this
theorem q6:∀(xs acc:d6),(unlike acc xs).length<=B acc+xs.length
 |[],acc=>iG _ _|x::r,acc=>by
  show(unlike (if acc.contains x then acc else acc++[x]) r).length<=_;have h:=q6 r<|if acc.contains x then acc else acc++[x];have k:(if acc.contains x then acc else acc++[x]).length<=B acc+1:=by
   by_cases c:acc.contains x=true
   .rw[c_ c];omega
   .rw[d4 c,Yd,Y8];exact Yu _
  rw[Yp];omega
def Zrq(hm:X.mg "len" =Yj)(B7:X.mg "set" =Yj)(h:C3 X a f)(hc:X.calm=true:=by rfl)(hg:Gl X "len":=by rfl)(xy:Gl X "set":=by rfl)(hs:Yv [a] X.env=(false,aO a X.env)::Yv [] X.env:=by rfl)(zC:Yv [.Call (.Name "set" p2) [a] [] q] X.env=(false,aO (.Call (.Name "set" p2) [a] [] q) X.env)::Yv [] X.env:=by rfl)(h1:(b8 q<|Yv [] X.env).any (·.1)=false:=by rfl)(h2:(b8 pos<|Yv [] X.env).any (·.1)=false:=by rfl):
  C3 X (.Call (.Name "len" p) [.Call (.Name "set" p2) [a] [] q] [] pos) (aD J0<|Za f Ze):=
 (Jf (r:=λxs H Q=>∃p n,xs=[.ref p]/\H p=O (QQ X p n)/\n<=20/\Q (.int (n:Int)) H) Zq0 hg hm fL (qG (QP (ZqA hc) xy B7 aaE (Zc h Zg hs) aaA aaA hs h1) zc zC) aaA aaA zC h2).imp λσ H Q ak=>by
  let⟨ι,M,env,S,E,h⟩:=ak;let⟨ds,M1,e1,h⟩:=au.bind h;refine⟨ι,M,env,S,E,?_⟩;rw[e1];intro vs H1 ι1 x1 S1 r1
  match ds,h,r1 with
  |[],h,_=>cases h|d1::d2::r,h,_=>cases d1<;>cases h|[d],h,r1=>
   cases d with
   |ref n=>
    let⟨xs,hn,h⟩:=Qm h;let⟨d,hd,h⟩:=JK h;let⟨hl,h⟩:=zG h;let⟨ts,yT,rfl⟩:=Mu.mp hd;let⟨v,ws,rfl,rv,Cu⟩:=r1;let⟨p,hp,rfl⟩:=rv.fG;let⟨us,e2,r2⟩:=S1.obj n _ p hn hp;rw[show ws=[]from Cu];have tl:B ts<=20:=by rwa[H6 yT]
    refine⟨p,us,ts.map λt=>(⟨kb t⟩:aj),rfl,.inl<|.inl e2,λb6 rr=>YC yT r2 rr,by rwa[Ym],λz hz=>?_⟩;have e3:(p6 []<|ts.map λt=>(⟨kb t⟩:aj)).length=(unlike [] ts).length:=YZ ts [];have l3:(unlike [] ts).length<=20:=Yi (q6 ts []) (by rwa[Er,yO]);refine⟨z,_,rfl,iw,by rwa[e3],?_⟩;rw[e3];exact h _ _ ι1 (x1.trans<|Loose.ext<|.inl hz) (S1.other (.inl hz)<|S1.fresh hz) Rep.int
   |_=>cases h
end
section
variable {prog:Y9} {w:aQ} {A:bG} {E:Yh->Yl->Prop} {s:Yl} {a:Yy} {tk:gq}
def w7{R:δ->Yh->Prop}{T:List (aj×δ)}{k:aj}{Q:Bool->Yl->Prop}(h:tY R s.heap a T)(q:Q (qC k T).isSome {s with toks:=s.toks+1}):aq (aA prog w) A (Nk (.ref a)<|.str k tk) Q E s:=by
 unfold Nk
 try with_reducible refine fW ?_
 refine Yc<|TY (vQ h) PySem.F.slot_dict_contains.lookup ?_;show aq _ _ (if(O (Value.builtin "dict.__contains__")==O Value.none)=true then _ else _) _ E s;rw[d4 (by rw[beq_builtin_none];exact mY)];refine Yc (wpAny_callSpecialUnlessNone?_slot (name:=rC "__contains__") (vQ h) MW
  (yu MW (vQ h) PySem.F.entry_dict_contains ?_<|args_dict_contains _ _))
 show aq _ _ (yE a (.str k tk)>>=_) _ _ s;refine Yc<|YW h (λd v e _=>?_) λe=>?_
 .rw[e]at q;show aq _ _ (ret<|.bool true) _ _ _;exact Yr ⟨_,rfl,tu q⟩
 .rw[e]at q;show aq _ _ (Builtin.Dict.pendingKey? a (.str k tk)>>=_) _ _ _;exact Yc<|wpAny_pendingKey_other h.1<|Yr ⟨_,rfl,tu q⟩
def Zq8{R:δ->Yh->Prop}{T:List (aj×δ)}{k:aj}{d:δ}(h:tY R s.heap a T)(e:qC k T=O d)(h1:∀v,R d v->Q v {s with toks:=s.toks+1}):aq (aA prog w) A (tH (.ref a)<|.str k tk) Q E s:=by
 unfold tH
 try with_reducible refine fW ?_
 refine Yc<|TV (vQ h) aaA ?_;refine Yc (Al (name:=rC "__getitem__") (vQ h) MY
  (yu MY (vQ h) PySem.F.entry_dict_getitem ?_<|PySem.F.args_dict_getitem_2 _ _))
 show aq _ _ (yE a (.str k tk)>>=λo=>_) _ _ s;refine Yc (YW h (λd' v e' r=>?_) λe'=>by rw[e]at e';cases e');rw[e]at e';cases e';exact Yr ⟨v,rfl,Yr<|h1 v r⟩
end
section
variable {X:Cx} {e:Expr} {x:aj} {a:Yy} {t:nA} {qr pos:a_} {g:E3}
def Y_(t:nA)(a:Yy)(p:Bool->Bool):R2:=λx y H Q=>y= .ref a/\∃k,x= .str ⟨kb k⟩/\Q (.bl<|p (cQ k t).isSome) H
def oD(ht:oW X.K a t):bA X (gM .In) (Y_ t a λb=>b):=by intro b4 s σ H x y v u Q I rx ry h;let⟨rfl,k,rfl,q⟩:=h;let⟨tk,rfl⟩:=rx;obtain rfl:u= .ref a:=ry;show aq _ _ ((do return Value.bool (←Nk (.ref a) (.str ⟨kb k⟩ tk))):nW Yh) _ _ _;refine Yc<|w7 (ht.at I.cJ)<|Yr ⟨.bl (qC (⟨kb k⟩:aj)<|Gj t).isSome,H,I.tok _,rfl,?_⟩;rwa[Gk]
def Zof(ht:oW X.K a t):bA X (gM .NotIn) (Y_ t a λb=>!b):=by intro b4 s σ H x y v u Q I rx ry h;let⟨rfl,k,rfl,q⟩:=h;let⟨tk,rfl⟩:=rx;obtain rfl:u= .ref a:=ry;show aq _ _ ((do return Value.bool (!(←Nk (.ref a) (.str ⟨kb k⟩ tk)))):nW Yh) _ _ _;refine Yc<|w7 (ht.at I.cJ)<|Yr ⟨.bl<|!(qC (⟨kb k⟩:aj)<|Gj t).isSome,H,I.tok _,rfl,?_⟩;rwa[Gk]
def ZC{p:Bool->Bool}{q:D->b3->R3 D}(hq:∀d M,q d M=(match d with| .str k=>.ok (.bl<|p (cQ k t).isSome) M|_=>.bad))(σ:St)(H:Hp)(Q:VK)(h:oO X.K (e1 q g) σ H Q):Ff (Y_ t a p) (oO X.K g) (tC<|.ref a) σ H Q:=by
 let⟨ι,M,env,S,E,h⟩:=h;let⟨d,M1,e1,h⟩:=au.bind h;refine⟨ι,M,env,S,E,?_⟩;rw[e1];intro y H1 ι1 x1 S1 r1;rw[hq]at h;cases d with
 |str k=>
  cases r1.str_inv
  exact⟨rfl,k,rfl,h _ H1 ι1 x1 S1 Rep.bl⟩
 |_=>cases h
section
variable (hm:X.mg x=O (.ref a)) (ht:oW X.K a t) (he:C3 X e g)
include hm ht he
theorem ZvD(hg:Gl X x:=by rfl)(hd:(x==("__debug__":aj))=false:=by decide)(hb:Ar .In (.Name x qr)=false:=by rfl):C3 X (.Compare e [.In] [.Name x qr] pos) (e1 (xN t) g):=(P4 (oD ht) he (za (v:=.ref a) hg hm J hd) hb).imp (ZC λd _=>by cases d<;>rfl)
theorem ZtG(hg:Gl X x:=by rfl)(hd:(x==("__debug__":aj))=false:=by decide)(hb:Ar .In (.Name x qr)=false:=by rfl):CT X (.Compare e [.In] [.Name x qr] pos) (e1 (xN t) g):=(Wm (oD ht) he (za (v:=.ref a) hg hm J hd) hb).imp λσ H Q ak=>by let⟨ι,M,env,S,E,h⟩:=ak;exact ZC (λd _=>by cases d<;>rfl) σ H _ ⟨ι,M,env,S,E,JC h⟩
theorem ZmW(hg:Gl X x:=by rfl)(hd:(x==("__debug__":aj))=false:=by decide)(hb:Ar .NotIn (.Name x qr)=false:=by rfl):CT X (.Compare e [.NotIn] [.Name x qr] pos) (e1 (Gm t) g):=(Wm (Zof ht) he (za (v:=.ref a) hg hm J hd) hb).imp λσ H Q ak=>by let⟨ι,M,env,S,E,h⟩:=ak;exact ZC (λd _=>by cases d<;>rfl) σ H _ ⟨ι,M,env,S,E,JC h⟩
end
def ZtR{te:TE}(hm:X.mg x=O (.ref a))(ht:oW X.K a t)(he:PE X e te)(hs:P_ e)(hg:Gl X x)(hd:(x==("__debug__":aj))=false):
  PE X (.Subscript (.Name x qr) e pos) (λσ H Q=>te σ H λy H1=>∃k i,y= .str ⟨kb k⟩/\cQ k t=O i/\Q (.int i) H1):=by
 intro b4 s σ H Q I h;refine Zvz PySem.F.slot_dict_getitem.lookup hs<|aP (za (v:=.ref a) (u:=.ref a) hg hm J hd b4 s σ H (λv H'=>v= .ref a/\H'=H) I ⟨rfl,rfl⟩) λu s1 ak=>?_;let⟨v,H1,I1,r1,rfl,rfl⟩:=ak;obtain rfl:u=Value.ref a:=r1;refine aP (he b4 s1 σ H1 _ I1 h) λiv s2 JZ=>?_;let⟨y,H2,I2,ry,k,i,rfl,et,q⟩:=JZ;let⟨tk,rfl⟩:=ry;have T2:=ht.at I2.cJ;refine⟨vQ T2,Zq8 T2 (d:=i) (by rw[Gk,et]) λv rv=>?_⟩;let⟨t',rfl⟩:=rv;exact⟨.int i,H2,I2.tok _,⟨t',rfl⟩,q⟩
def ZuQ(hm:X.mg x=O (.ref a))(ht:oW X.K a t)(he:C3 X e g)(hs:P_ e:=by exactλ_ _=>rfl)(hg:Gl X x:=by rfl)(hd:(x==("__debug__":aj))=false:=by decide):
  C3 X (.Subscript (.Name x qr) e pos) (e1 (zP t) g):=(ZtR hm ht he hs hg hd).imp λσ H Q ak=>by
 let⟨ι,M,env,S,E,h⟩:=ak;let⟨d,M1,e1,h⟩:=au.bind h;refine⟨ι,M,env,S,E,?_⟩;rw[e1];intro y H1 ι1 x1 S1 r1;cases d with
 | str k=>
  cases r1.str_inv
  cases et:cQ k t with
  |none=>have h:au X.K H ι Q (match cQ k t with|some i=>.ok (.int i) M1|none=>.bad):=h;rw[et]at h;cases h
  |some i=>have h:au X.K H ι Q (match cQ k t with|some i=>.ok (.int i) M1|none=>.bad):=h;rw[et]at h;exact⟨k,i,rfl,et,h _ H1 ι1 x1 S1 Rep.int⟩
 |_=>cases h
end
section
variable {X:Cx}
def ZD(hu:X.A.units+80<lK):bA X (gM .NotEq) (r2 X.K ur):=by
 intro b4 s σ H x y v u Q I rx ry h;let⟨ι,M,a,b,S,ra,rb,h⟩:=h;have sr:X.A.units<lK:=by omega
 unfold ur at h;split at h
 next n m=>
  split at h
  next z h1 h2=>
   let⟨p,vs,b6,_,eu,t,r1,v1⟩:=Qo I S h1 ra rx;let⟨q,ws,p5,_,ev,t',r2,v2⟩:=Qo I S h2 rb ry;cases z with
   |nil=>exact(Xl (k:=true) hu I S ra rb rx ry (by simp only[Bt,h1,h2];rfl)).2 X.prog X.w X.xe _ ⟨.bl false,H,I,rfl,au.ok h S Rep.bl⟩|cons d ds=>rw[eu,ev];have hz:(b6.toArray.size !=p5.toArray.size)=true:=bne_iff_ne.mpr λe=>k9 ((qO r1 v1).symm.trans<|e.trans<|qO r2 v2) i9;exact Oy t t' hz sr X.prog X.w X.xe _ ⟨.bl true,H,I,rfl,au.ok h S Rep.bl⟩
  .exact h.elim
 .exact h.elim
end
end L3
namespace PySem.W
open PySem PySem.Spec PySem.Calls PyProof.Rows Builtin Builtin.ObjectAttr
section
variable {prog:Y9} {w:aQ} {K:Frag} {x D:Yy} {name:aj} {v:Yh}
theorem ZzK{A:bG}{R:ph->Yl->Prop}{s:Yl}{tk:gq}(hb:mroIn K D (.type "BaseException")=O true)(X:K.In s.heap)(p:qY x D s.heap)(L3:Looks (aA prog w) s.heap (find (.ref x) (.ref D) name) (.value v))(hq:R (.ok<|.ret v) s):kO (aA prog w) A (.call (.builtin "BaseException.__getattribute__") ⟨[.ref x,.str name tk],[]⟩) R s:=by
 let⟨hh,gg,dd,tt,oo⟩:=s;have L0:=p.ty<|aA prog w;have L1:=looks_mroIn (M:=aA prog w) X hb;have hk:builtinKind "BaseException.__getattribute__" =O .slot:=by decide +kernel
 have hs:splitId "BaseException.__getattribute__" =O ("BaseException","__getattribute__"):=by decide +kernel
 have hz:=NH (.ref x)<|.str name tk;refine wG F.excAttr_ValueError.ga.plain NG ?_;simp only[Ed,hk,hs];refine Yc ?_;unfold HB
 repeat lk
 exact hq
theorem AdN{A:bG}{E:Yh->Yl->Prop}{s:Yl}{Q:Yh->Yl->Prop}{b:Bool}(hg:findIn K (.ref D) "__getattribute__" =O (O<|.builtin "BaseException.__getattribute__"))(xy:findIn K (.ref D) "__getattr__" =O Yj)(hb:mroIn K D (.type "BaseException")=O true)(X:K.In s.heap)(p:qY x D s.heap)(L:Looks (aA prog w) s.heap (find (.ref x) (.ref D) name) (.value v))(hv:handedIn v=true)(hq:Q v {s with toks:=s.toks+1}):aq (aA prog w) A (HN (.ref x) name b) Q E s:=by let⟨hh,gg,dd,tt,oo⟩:=s;have L0:=p.ty<|aA prog w;have L1:=looks_findIn (M:=aA prog w) X hg;have L2:=looks_findIn (M:=aA prog w) X xy;have f3:=F.excAttr_ValueError.ga.bind<|.ref x;unfold HN getAttrBy;refine Yc<|Uc<|fW<|Yc<|L0.at<|Yc<|L1.at ?_;show aq _ _ (MN _ _ _ _ _ _) _ _ _;unfold MN hookBefore JY;refine Yc<|L2.at<|Yc<|Hx<|fW ?_;rw[show(b&&onTheHeap (.builtin "BaseException.__getattribute__"))=false from by cases b<;>rfl,d4 aaA];show aq _ _ (M_ _ _ _) _ _ _;unfold M_;rw[f3];refine Yc<|Yr ?_;refine q9<|ZzK hb X p L ?_;exact handed_on hv hq
def Adz{M:Model}{h:aH}{o:aK}{vs:Array Yh}{dx:Yy}{m:aj->Option Yh}{cd:ClassData}(X:K.In h)(hx:h.get? x=O o)(hc:o.cls= .ref D)(hd:o.data= .fields vs)(vw:o.dict=O dx)(hn:h.Ns1 dx m)(hm:m name=O v)(cl:clsIn K D=O cd)(hh:cd.hasDict=true)(hf:findIn K (.ref D) name=O Yj):Looks M h (find (.ref x) (.ref D) name) (.value v):=by
 refine(looks_findIn (M:=M) X hf).andThen ((show Looks M h (getOf Yj) Yj from .now).andThen<|(show Looks M h (dataDescriptor? Yj Yj) Yj from .now).andThen ?_);have L:=looks_clsIn (M:=M) X cl;have own:Looks M h (inOwnDict name<|.ref x) (O v):=by intro A Q E s k q;let⟨o2,es,ep,e1,e2,e3,e4,e5⟩:=hn;refine Yc<|Yc<|MP (k _ _ hx) ?_;rw[hd];unfold instanceDict;refine Yc<|MP (k _ _ hx) ?_;rw[hc];refine Yc<|L A _ E s k ?_;rw[hh,vw];refine Yr (a:=O dx) ?_;refine wpAny_nsGet ⟨o2,es,ep,k _ _ e1,e2,e3,λ_=>rfl⟩ ?_;rwa[e5 name,hm]
 exact own.andThen<|Looks.tag .now
end
end PySem.W
namespace PySem.W
open PySem PySem.Spec PySem.Calls PyProof.Rows Builtin Builtin.ObjectAttr
section
variable {prog:Y9} {w:aQ} {K:Frag} {x D CL:Yy} {name:aj} {v:Yh} {cd:ClassData}
abbrev uw:List Yh:=[.type "ValueError",.type "Exception",.type "BaseException",.type "object"]
theorem Zxi{M:Model}{A:bG}{E:Yh->Yl->Prop}{Q:Unit->Yl->Prop}{s:Yl}{a b:Yh}(X:K.In s.heap)(p:qY x D s.heap)(ho:mroIn K D (.type "object")=O true)(hq:Q () s):
  aq M A (Ed "object.__setattr__" ⟨[.ref x,a,b],[]⟩) Q E s:=by
 let⟨h,g,d,t,os⟩:=s;have L0:=p.ty M;have L3:=looks_mroIn (M:=M) X ho;have hz:=F.store_ValueError.args (.ref x) a b;simp only[Ed,F.store_ValueError.kind,F.store_ValueError.split];refine Yc ?_;unfold HB
 repeat lk
 exact hq
theorem Zz4{A:bG}{R:ph->Yl->Prop}{s:Yl}{tk:gq}{o:aK}{vs:Array Yh}(X:K.In s.heap)(hx:s.heap.get? x=O o)(hc:o.cls= .ref D)(hd:o.data= .fields vs)(EG:o.dict=Yj)(cl:clsIn K D=O cd)(hh:cd.hasDict=true)(hm:cd.mro= .ref D:: .ref CL::uw)(hf:findIn K (.ref D) name=O Yj)(ho:mroIn K D (.type "object")=O true)(hq:∀h' tk',h'.get? x=O {o with dict:=O<|c6 s}->h'.Ns1 (c6 s) (λy=>if y=name then O v else Yj)->(∀b ob,b≠x->s.heap.get? b=O ob->h'.get? b=O ob)->R (.ok<|.ret .none) {s with heap:=h',toks:=tk'}):
  kO (aA prog w) A (.call (.builtin "object.__setattr__") ⟨[.ref x,.str name tk,v],[]⟩) R s:=by
 have p:qY x D s.heap:=⟨o,hx,hc⟩;refine wG F.store_ValueError.slot.plain F.store_ValueError.entry<|Zxi X p ho ?_;let⟨h,g,d,t,os⟩:=s;have L0:=p.ty<|aA prog w;have L2:=looks_findIn (M:=aA prog w) X hf;have L5:=looks_clsIn (M:=aA prog w) X cl;have L4:Looks (aA prog w) h (mroOf<|.ref D) cd.mro:=L5.andThen .now;have pass:refuseLoop (.ref x) "__setattr__" cd.mro=pure ():=by rw[hm,refuseLoop_ref,refuseLoop_ref];exact F.store_ValueError.passes _
 unfold Builtin.«object.__setattr__»;refine Yc ?_;rw[refuse_eq];refine Yc<|L0.at<|Yc<|L4.at ?_;rw[pass];refine Yr<|Yc<|Yr<|Yc<|L0.at<|Yc<|L2.at<|Yc<|Yr ?_;show aq _ _ (storeInOwnDict _ _ _ _ _ _) _ _ _;unfold storeInOwnDict ownDictForStores instanceDict
 repeat(first|(with_reducible refine Ec hx ?_;rw[hc])|with_reducible refine Looks.at (by assumption) ?_|wp_step)
 rw[EG,hd];have pg:(h.push {cls:=.type "dict",data:=.dict #[]}).get? x=O o:=Yn _ hx;have tr:x≠h.objs.size:=d8<|Y3 hx;refine Yc<|wpAny_alloc'<|Yc<|wpAny_update' pg<|Yr ?_;have g1:((h.push {cls:=.type "dict",data:=.dict #[]}).update x λo=>{cls:=o.cls,dict:=O h.objs.size,data:=o.data,slots:=o.slots}).get? h.objs.size=O {cls:=.type "dict",data:=.dict #[]}:=(LX _ _ _ _ tr.symm).trans<|Vb J J;have fr:=(Heap.get?_some_iff.mp hx).2;have g2:((h.push {cls:=.type "dict",data:=.dict #[]}).update x λo=>{cls:=o.cls,dict:=O h.objs.size,data:=o.data,slots:=o.slots}).get? x=O {o with dict:=O h.objs.size}:=by refine yP _ pg ?_;let⟨oc,od,AaO,sM⟩:=o;cases AaO<;>first|rfl|exact fr
 show aq _ _ (storeInDict h.objs.size (.str name tk) name v) _ _ _;unfold storeInDict newKeyGuard;refine Yc<|Yr<|Yc<|wpAny_nsSet1 (OE ⟨_,#[],_,g1,rfl,λe he=>k9 he i9,λ_=>rfl⟩) λh' AM hs=>?_;let⟨ZpR,esD,epD,DA,DB,zD⟩:=AM.count<|Within.cons name v Within.nil;refine Yc (JJ DA (by rw[DB];exact JO<|Yi zD (by rw[Yp,Er,uU];omega)) ?_)
 wp_walk
 exact hq h' _ ((hs.2 x tr).trans g2) AM λb ob hb q=>(hs.2 b<|d8<|Y3 q).trans<|(LX _ _ _ _ hb).trans<|Yn _ q
theorem AdO{A:bG}{E:Yh->Yl->Prop}{s:Yl}{Q:Unit->Yl->Prop}{o:aK}{vs:Array Yh}(X:K.In s.heap)(hx:s.heap.get? x=O o)(hc:o.cls= .ref D)(hd:o.data= .fields vs)(EG:o.dict=Yj)(cl:clsIn K D=O cd)(hh:cd.hasDict=true)(hm:cd.mro= .ref D:: .ref CL::uw)(hsa:findIn K (.ref D) "__setattr__" =O (O<|.builtin "object.__setattr__"))(hf:findIn K (.ref D) name=O Yj)(ho:mroIn K D (.type "object")=O true)(hq:∀h' tk',h'.get? x=O {o with dict:=O<|c6 s}->h'.Ns1 (c6 s) (λy=>if y=name then O v else Yj)->(∀b ob,b≠x->s.heap.get? b=O ob->h'.get? b=O ob)->Q () {s with heap:=h',toks:=tk'}):
  aq (aA prog w) A (BS (.ref x) name v) Q E s:=by
 let⟨h,g,d,t,os⟩:=s;have p:qY x D h:=⟨o,hx,hc⟩;have L0:=p.ty<|aA prog w;have L1:=looks_findIn (M:=aA prog w) X hsa;have f3:=F.store_ValueError.slot.bind<|.ref x;unfold BS callSpecial? specialOf;refine Yc<|Uc<|Yc<|Yc<|Yc<|L0.at<|L1.at ?_;refine fW<|Yc ?_;rw[f3];refine Yr<|Yc<|q9<|Zz4 X hx hc hd EG cl hh hm hf ho λh' tk' a b c=>?_;exact Yr<|Yr<|hq h' tk' a b c
end
end PySem.W
namespace PySem.W
open PySem PySem.Spec PySem.Calls PyProof.Rows
section
variable {prog:Y9} {w:aQ} {A:bG} {E:Yh->Yl->Prop} {h:aH} {g:Array GenState} {d:Drawn} {t:Nat} {os:OsState}
variable {nm q:aj} {C N:Yy} {bs bm:List Yh} {hdct:Bool} {sn:List aj} {sub:List Yh} {ab:Bool} {col:Option Bool} {dd:Option Yy} {k0 k1 k2 k3 k5:Option Yh}
def ZzW(T:OwnTail h uw bm){mN:aj->Option Yh}{rest:List Yh}{fI:Yy}{oI:aK}{Q:Fin->Yl->Prop}(hC:h.get? C=O (yx nm q C N bs bm hdct sn sub ab col dd k0 k1 k2 k3 k5 "ValueError.__new__"))(hn:h.Ns N mN)(hi:mN "__init__" =O (.ref fI))(EH:h.get? fI=O oI)(EI:oI.cls= .type "function")(wy:B rest<=bI)(hq:∀h' e,Heap.MadeExcOf h h' e (.ref C) rest->aq (aA prog w) A (call (.ref fI)<|.ref e::rest) (λr s'=>r= .none/\Q (.done<|.ret<|.ref e) s') E ⟨h',g,d,t,os⟩):
  aq (aA prog w) A (Builtin.«type.__call__» ⟨.ref C::rest,[]⟩) Q E ⟨h,g,d,t,os⟩:=by
 have Fb:=MX;have hB:uw.contains (.type "ValueError")=true:=by decide
 repeat(first
  |with_reducible refine Ec hC ?_
  |with_reducible refine wpAny_madeBy_exc hC ?_
  |wp_step)
 refine codeAny_call_builtin_code (A1 _ Fb.quiet)<|wpAny_check_new_subU Fb hB T hC<|codeAny_exc_new_subU Fb hB Fb T hC ?_ wy;show aq _ _ _ _ _ _;generalize ht:({cls:=.type "tuple",data:=.seq rest.toArray}:aK)=U;generalize he:({cls:=.ref C,data:=.fields #[.ref h.objs.size,.none,.none,.none,.bool false,.none]}:aK)=ex;have up:∀b o,h.get? b=O o->((h.push U).push ex).get? b=O o:=λb o z=>Yn _<|Yn _ z;have C1:=up _ _ hC;have ge:((h.push U).push ex).get? (h.objs.size+1)=O ex:=by refine Vb (by rw[yQ]) ?_;rw[<-he];rfl
 have ec:ex.cls= .ref C:=by rw[<-he]
 have AaP:(Value.ref C::bm).contains (.ref C)=true:=by simp
 unfold HB
 repeat(first
  |(with_reducible refine Ec ge ?_;rw[ec])
  |(with_reducible refine IZ C1 ?_;rw[AaP])
  |wp_step)
 show aq _ _ (Uh (.ref C) _) _ _ _;refine wpAny_typeLookup_tail C1 (hn.keeps up) (T.keeps up) Fb.mroIs Fb.init.lookup ?_;rw[hi];refine fW<|Yc ?_;unfold bindSpecial;refine Yc<|Nb (T:="function") ⟨_,up _ _ EH,EI⟩ ?_;rw[c_ aaA];refine Yr<|Yc<|gD (hq _ (h.objs.size+1) ⟨up,Oe<|tU _,h.objs.size,?_,Oe<|Yu _,?_⟩) (λr s' z=>?_) λ_ _ z=>z
 .rw[ge,<-he]
 .rw[ht];exact Yn _ (Vb J (by rw[<-ht];rfl))
 .let⟨rfl,z⟩:=z
  wp_walk
  exact z
def AdA(T:OwnTail h uw bm){mN:aj->Option Yh}{rest:List Yh}{fI:Yy}{oI:aK}{Q:Yh->Yl->Prop}(hC:h.get? C=O (yx nm q C N bs bm hdct sn sub ab col dd k0 k1 k2 k3 k5 "ValueError.__new__"))(hn:h.Ns N mN)(hi:mN "__init__" =O (.ref fI))(EH:h.get? fI=O oI)(EI:oI.cls= .type "function")(wy:B rest<=bI)(hq:∀h' e,Heap.MadeExcOf h h' e (.ref C) rest->aq (aA prog w) (A.under<|.builtin "type.__call__" ⟨.ref C::rest,[]⟩) (call (.ref fI)<|.ref e::rest) (λr s'=>r= .none/\Q (.ref e) s') E ⟨h',g,d,t,os⟩):
  aq (aA prog w) A (call (.ref C) rest) Q E ⟨h,g,d,t,os⟩:=by
 have f1:=tc_lookup;have f2:=tc_bind<|.ref C;have hT:(⟨h,g,d,t,os⟩:Yl).TypeIs (.ref C) "type":=⟨_,hC,rfl⟩;refine q9<|T4 ?_;show aq _ _ (callAny (.ref C) _) _ _ _
 repeat(any_goals(first
  |assumption
  |with_reducible refine Ec hC ?_
  |wp_step))
 exact⟨rfl,codeAny_call_builtin_at (A1 _ aaE) entry_typeCall<|wpAny_check_type_call_sub hC<|ZzW T hC hn hi EH EI wy hq⟩
def Adq{M:Model}{s:Yl}{env:dz}{x:nW Yh}{Q:Flow->Yl->Prop}(p9:bm.contains (.type "BaseException")=true)(hh:A.handled=Yj)(hx:aq M A x (λv s₁=>∃e dx vs sl,v= .ref e/\s₁.heap.get? C=O (yx nm q C N bs bm hdct sn sub ab col dd k0 k1 k2 k3 k5 "ValueError.__new__")/\
   s₁.heap.get? e=O {cls:=.ref C,dict:=dx,data:=.fields vs,slots:=sl}/\vs[1]?=O .none/\E (.ref e) s₁) E s):aq M A (raiseStmt env (O x) Yj) Q E s:=by
 have cB:(Value.ref C::bm).contains (.type "BaseException")=true:=by rw[Uy,p9,Bool.or_true]
 unfold raiseStmt;refine Yc<|gD hx (λv s₁ z=>?_) λ_ _ z=>z;let⟨e,dx,vs,sl,rfl,hC,he,h1,hE⟩:=z;let⟨hp,g,d,tk,os⟩:=s₁
 repeat(first
  |with_reducible refine Ec he ?_
  |with_reducible refine Ec hC ?_
  |(with_reducible refine IZ hC ?_;rw[cB])
  |with_reducible refine o_ he J h1 ?_
  |wp_step)
 exact wpAny_raiseNew_none hh hE
end
end PySem.W
namespace PySem.W
open PySem PySem.Spec PySem.Calls PyProof.Rows
section
variable {prog:Y9} {w:aQ} {A:bG} {E:Yh->Yl->Prop} {h:aH} {g:Array GenState} {d:Drawn} {t:Nat} {os:OsState}
variable {nm q:aj} {C N:Yy} {bs bm:List Yh} {hdct:Bool} {sn:List aj} {sub:List Yh} {ab:Bool} {col:Option Bool} {dd:Option Yy} {k0 k1 k2 k3 k5:Option Yh}
def AdB(T:OwnTail h uw bm)(hC:h.get? C=O (yx nm q C N bs bm hdct sn sub ab col dd k0 k1 k2 k3 k5 "ValueError.__new__")){e:Yy}{dx:Option Yy}{vs:Array Yh}{sl:Array (Option Yh)}{a:Yh}{R:ph->Yl->Prop}(he:h.get? e=O {cls:=.ref C,dict:=dx,data:=.fields vs,slots:=sl})(hs:1<vs.size){tv:Yy}(h0:vs[0]?=O (.ref tv))(hq:∀h' t0,h'.get? e=O {cls:=.ref C,dict:=dx,data:=.fields<|vs.setIfInBounds 0<|.ref t0,slots:=sl}->(∀b o,b≠e->h.get? b=O o->h'.get? b=O o)->R (.ok<|.ret .none) ⟨h',g,d,t,os⟩):
  kO (aA prog w) A (.call (.builtin "ValueError.__init__") ⟨[.ref e,a],[]⟩) R ⟨h,g,d,t,os⟩:=by
 have Fb:=MX;refine wG Fb.init.plain Fb.initEntry<|wpAny_check_init_subU Fb T hC he J ?_
 wp_walk
 rw[h0]
 wp_walk
 rw[c_<|mX LP hs]
 wp_walk
 have g2:=yP (Be (·.setIfInBounds 0 (Value.ref h.objs.size))) (Yn {cls:=.type "tuple",data:=.seq [a].toArray} he) J;exact hq _ h.objs.size g2 λb o hb z=>(pF _ _<|cu hb).trans<|Yn _ z
def AdC{K:Frag}{CL:Yy}{pl:nW Bool}{Q:Yh×List Yh->Yl->Prop}{s:Yl}(X:K.In s.heap)(hg:specialIn K (.ref CL) "__getattribute__" =O (O<|.builtin "type.__getattribute__"))(hr:readsIn K CL (.type "type")=true)(hf:findCls K (.ref CL) (.type "type") "__init__" =O (.val<|.builtin "ValueError.__init__"))(hq:Q (.builtin "ValueError.__init__",[]) {s with toks:=s.toks+1}):aq (aA prog w) A (getMethod (.ref CL) "__init__" pl) Q E s:=method_cls X hg<|cls_value X hr hf aaE hq
end
end PySem.W
namespace L3
open PySem PySem.Spec PyProof.Rows L2
def J1(e C:Yy)(dd:Option Yy)(h:aH):Prop:=∃vs sl tv,h.get? e=O {cls:=.ref C,dict:=dd,data:=.fields vs,slots:=sl}/\1<vs.size/\vs[0]?=O (.ref tv)/\vs[1]?=O .none
abbrev gY(e C:Yy)(dd:Option Yy):HO:=.ext<|J1 e C dd
def ZF{P:Y9}{w:aQ}{H:Hp}{h:aH}{e C:Yy}{dd:Option Yy}(x:J1 e C dd h):d9 P w H h e (gY e C dd):=⟨x,(let⟨_,_,_,q,_⟩:=x;⟨_,q⟩),λ_ _ z k=>let⟨vs,sl,tv,a,b⟩:=z;⟨vs,sl,tv,k _ a,b⟩⟩
section
variable {X:Cx} {b4:List (Yy×aK)} {σ:St} {H:Hp} {s:Yl} {e:Yy} {φ φ':aH->Prop} {h':aH} {t':Nat}
def ZG(I:Inv X b4 σ H s){b:Yy}(q:s.heap.get? b=Yj):H b=Yj:=by
 cases z:H b with
 |none=>rfl|some u=>let⟨o,ho⟩:=Wl<|I.i6 b u z;rw[q]at ho;cases ho
def CR(I:Inv X b4 σ H s)(he:H e=O (.ext φ))(keep:∀b u,b≠e->s.heap.get? b=O u->h'.get? b=O u)(ok:∀H',d9 X.prog X.w H' h' e<|.ext φ'):Inv X b4 σ (upd H e<|.ext φ') {s with heap:=h',toks:=t'}:=by
 have nb:∀{b u},H b=O u->(∀ψ,u≠ .ext ψ)->b≠e:=λ{b u} q n z=>by rw[z,he]at q;cases q;exact n _ J
 have n0:∀{b},H b=Yj->b≠e:=λ{b} q z=>by rw[z,he]at q;cases q
 refine I.un ⟨λb u q n _ _=>keep b u (n0 n) q,λb u q n _ _=>⟨u.slots,keep b u (n0 n) q⟩,λb u q n _=>by rwa[bH<|n0 n],λb u q _=>?_,λb xs q=>by rwa[bH<|nb q nofun],
  λb u xs q=>by rwa[bH<|nb q nofun],λb ps q=>⟨#[],by rw[bH<|nb q nofun,q];simp⟩⟩ λb u q=>?_
 .by_cases hb:b=e
  .rw[hb];exact(ok H).2.1
  .exact⟨u,keep b u hb q⟩
 .by_cases hb:b=e
  .subst hb;rw[iw]at q;cases q;exact ok _
  .rw[bH hb]at q;refine(I.i6 b u q).rf (λc v hc z=>keep c v ?_ z) (λc z=>by rwa[bH<|nb z nofun]) λc xs z=>by rwa[bH<|nb z nofun]
   rcases hc with rfl|hc
   .exact hb
   .exact nb hc nofun
def Zr2{dx:Yy}{o2:HO}(I:Inv X b4 σ H s)(he:H e=O (.ext φ))(vw:s.heap.get? dx=Yj)(keep:∀b u,b≠e->s.heap.get? b=O u->h'.get? b=O u)(ok:∀H',d9 X.prog X.w H' h' e<|.ext φ')(ok2:∀H',d9 X.prog X.w H' h' dx o2):
  Inv X b4 σ (upd (upd H e<|.ext φ') dx o2) {s with heap:=h',toks:=t'}:=by
 have hd0:=ZG I vw;have nb:∀{b u},H b=O u->(∀ψ,u≠ .ext ψ)->b≠e:=λ{b u} q n z=>by rw[z,he]at q;cases q;exact n _ J
 have n0:∀{b},H b=Yj->b≠e:=λ{b} q z=>by rw[z,he]at q;cases q
 have nd:∀{b u},H b=O u->b≠dx:=λ{b u} q z=>by rw[z,hd0]at q;cases q
 have AaT:∀{b u},s.heap.get? b=O u->b≠dx:=λ{b u} q z=>by rw[z,vw]at q;cases q
 refine I.un ⟨λb u q n _ _=>keep b u (n0 n) q,λb u q n _ _=>⟨u.slots,keep b u (n0 n) q⟩,λb u q n _=>by rwa[bH<|AaT q,bH<|n0 n],λb u q _=>?_,λb xs q=>by rwa[bH<|nd q,bH<|nb q nofun],
  λb u xs q=>by rwa[bH<|nd q,bH<|nb q nofun],λb ps q=>⟨#[],by rw[bH<|nd q,bH<|nb q nofun,q];simp⟩⟩ λb u q=>?_
 .by_cases hb:b=e
  .rw[hb];exact(ok H).2.1
  .exact⟨u,keep b u hb q⟩
 .by_cases hd:b=dx
  .subst hd;rw[iw]at q;cases q;exact ok2 _
  .rw[bH hd]at q;by_cases hb:b=e
   .subst hb;rw[iw]at q;cases q;exact ok _
   .rw[bH hb]at q;refine(I.i6 b u q).rf (λc v hc z=>keep c v ?_ z) (λc z=>by rwa[bH<|nd z,bH<|nb z nofun]) λc xs z=>by rwa[bH<|nd z,bH<|nb z nofun]
    rcases hc with rfl|hc
    .exact hb
    .exact nb hc nofun
end
structure J2(K:Yb)(C CL fI:Yy)(f:aj):Prop where
 obj:∃(na q:aj) (N:Yy) (bs bm:List Yh) (hdct:Bool) (sn:List aj) (sub:List Yh) (ab:Bool) (col:Option Bool) (dd:Option Yy) (k0 k1 k2 k3 k5:Option Yh),
  K.lookup C=O (yx na q C N bs bm hdct sn sub ab col dd k0 k1 k2 k3 k5 "ValueError.__new__")/\(∀h:aH,K.In h->∃mN,h.Ns N mN/\mN "__init__" =O (.ref fI))/\∀h:aH,K.In h->OwnTail h PySem.W.uw bm
 cls:∃cd,mW K C=O cd/\cd.hasDict=true/\cd.mro= .ref C:: .ref CL::PySem.W.uw
 sa:fJ K (.ref C) "__setattr__" =O (O<|.builtin "object.__setattr__")
 nf:fJ K (.ref C) f=O Yj
 mo:wD K C (.type "object")=O true
 ga:D_ K (.ref CL) "__getattribute__" =O (O<|.builtin "type.__getattribute__")
 rd:Tt K CL (.type "type")=true
 fc:Tu K (.ref CL) (.type "type") "__init__" =O (.val<|.builtin "ValueError.__init__")
section
variable {X:Cx} {a b o value:Expr} {f x:aj} {p1 p2 p3 pos pos' apos:a_} {C CL fI:Yy} {ta tv:TE}
def Zwx{H:Hp}{e:Yy}{u:HO}(h:H e=O u):upd H e u=H:=by
 funext z;by_cases q:z=e
 .rw[q,iw,h]
 .rw[bH q]
def ZqP(l9:J2 X.K C CL fI f):dB X (.builtin "ValueError.__init__") (λxs H Q=>∃e y,xs=[.ref e,.str y]/\H e=O (gY e C Yj)/\Q .Z H):=by intro b4 s σ H xs us Q I r z;let⟨e,y,rfl,he,hq⟩:=z;let⟨u,v,rfl,ru,rv⟩:=vals2 r;cases ru;let⟨na,q,N,bs,bm,hdct,sn,sub,ab,col,dd,k0,k1,k2,k3,k5,lk,_,hT⟩:=l9.obj;let⟨⟨vs,sl,tv,h1,h2,h3,h4⟩,_⟩:=(show d9 X.prog X.w H s.heap e (gY e C Yj)from I.i6 e _ he);let⟨h,g,d,t,os⟩:=s;refine q9<|PySem.W.AdB (hT _ I.cJ) (I.cJ _ _ lk) h1 h2 h3 λh' t0 g1 k1=>?_;have I2:=CR (φ':=J1 e C Yj) (t':=t) I he (λb u hb z=>k1 b u hb z) λH'=>ZF ⟨_,sl,t0,g1,by simpa using h2,by simp[mX LP h2],by rwa[MR aaA]⟩;rw[Zwx he]at I2;exact⟨.Z,H,I2,rfl,hq⟩
def Zt6(l9:J2 X.K C CL fI f){es:List Expr}{e:Expr}{t:TA}(hm:X.mg x=O (.ref CL))(ha:PA X (e::es) t)(hg:Gl X x:=by rfl)(sd:(x==("__debug__":aj))=false:=by decide){pl:nW Bool}(he:Yv (e::es) X.env=(false,aO e X.env)::Yv es X.env:=by rfl)(qv:(b8 pos<|Yv es X.env).any (·.1)=false:=by rfl)(ht:aO (.Call (.Attribute (.Name x p1) "__init__" apos) (e::es) [] pos) X.env=(do
   let ov ←aO (.Name x p1) X.env
   Ej apos.atName
   let(f,first) ←wI [ov] (getMethod ov "__init__" pl)
   Ei pos f first (b8 pos<|Yv (e::es) X.env) (jN pos<|jL [] X.env)):=by rfl):
  PE X (.Call (.Attribute (.Name x p1) "__init__" apos) (e::es) [] pos) (Je (λxs H Q=>∃e y,xs=[.ref e,.str y]/\H e=O (gY e C Yj)/\Q .Z H) t):=by
 intro b4 s σ H Q I h;refine PySem.W.methodCall_KW (pl:=pl) (Bl I hg hm (PySem.W.AdC I.cJ l9.ga l9.rd l9.fc ?_) sd) ht;exact Mn (aP (ha pos b4 _ σ H _ (I.tok _) h) λus s1 z=>let⟨vs,H1,I1,r1,q1⟩:=z;ZqP l9 b4 s1 σ H1 vs us Q I1 r1 q1) he qv
def ZtC{i:Int}(h:i.natAbs.log2<1000):(rC<|yV i).length<=10000:=by have e:=int_text_length_le (k:=1000) aaA h;rw[PySem.ofString_length];omega
def Zua{ca cb:aj}{ro ri}(hv:PE X value tv)(hl:ca.length+cb.length<=100:=by decide +kernel):
  PE X (.JoinedStr [.Constant (.str ca) ro p1,.FormattedValue value (-1) Yj p2,.Constant (.str cb) ri p3] pos) (λσ H Q=>tv σ H λy H1=>∃i,y= .int i/\i.natAbs.log2<1000/\∀z,Q (.str z) H1):=by
 intro b4 s σ H Q I h;have z0:(Ey++ca).length<=bI:=by rw[Eg,uU];have:Str.empty.length=0:=rfl;omega
 refine wpAny_JoinedStr ?_;show aq _ _ (aO (.Constant (.str ca) ro p1) X.env) _ _ s;refine aP (V9 b4 s σ H (λv H'=>v= .str ca/\H'=H) I ⟨rfl,rfl⟩) λu s1 z=>?_;let⟨v,H1,I1,r1,e1,e2⟩:=z;subst e1 e2;let⟨t1,rfl⟩:=r1;refine⟨ca,t1,rfl,z0,?_⟩;show aq _ _ (aO (.FormattedValue value (-1) Yj p2) X.env) _ _ s1;refine wpAny_FormattedValue_plain<|aP (hv b4 s1 σ _ _ I1 h) λu2 s2 z=>?_;let⟨y,H2,I2,r2,i,e1,hi,hq⟩:=z;subst e1;let⟨ZiS,rfl⟩:=r2;have Zv8:=ZtC hi;have z1:(Ey++ca++rC (yV i)).length<=bI:=by rw[Eg,Eg,uU];have:Str.empty.length=0:=rfl;omega
 have z2:(Ey++ca++rC (yV i)++cb).length<=bI:=by rw[Eg,Eg,Eg,uU];have:Str.empty.length=0:=rfl;omega
 refine wpAny_formatField_int (mX hi aaA) ⟨_,_,rfl,z1,?_⟩;show aq _ _ (aO (.Constant (.str cb) ri p3) X.env) _ _ _;refine aP (V9 b4 _ σ H2 (λv H'=>v= .str cb/\H'=H2) (I2.tok _) ⟨rfl,rfl⟩) λu3 s3 z=>?_;let⟨v,H3,I3,r3,e1,e2⟩:=z;subst e1 e2;let⟨t3,rfl⟩:=r3;exact⟨cb,t3,rfl,z2,z2,⟨.str _,_,I3.tok _,⟨_,rfl⟩,hq _⟩⟩
def Zu6(l9:J2 X.K C CL fI f)(ha:PE X o ta)(hv:PE X value tv)(hs:tG value (O<|.Attribute o f pos') pos.line X.env=pure false:=by rfl):
  PS X (.Assign [.Attribute o f pos'] value pos) (λD σ H=>tv σ H λy H1=>ta σ H1 λx H2=>∃e i,x= .ref e/\y= .int i/\H2 e=O (gY e C Yj)/\∀dx od,H2 dx=Yj->D.nx σ (upd (upd H2 e<|gY e C<|O dx) dx<|.cY od<|.xd [(f,.int i)])):=by
 intro b4 s σ H D I h;refine IJ (aP (hv b4 s σ H _ I h) λu s1 z=>?_) hs;let⟨y,H1,I1,ry,q⟩:=z;refine aP (ha b4 s1 σ H1 _ I1 q) λov s2 z=>?_;let⟨x,H2,I2,rx,e,i,ex,ey,he,q2⟩:=z;subst ex ey;obtain rfl:ov=Value.ref e:=rx;let⟨ti,rfl⟩:=ry;let⟨cd,c1,c2,c3⟩:=l9.cls;let⟨⟨vs,sl,tv,h1,h2,h3,h4⟩,_⟩:=(show d9 X.prog X.w H2 s2.heap e (gY e C Yj)from I2.i6 e _ he);refine PySem.W.AdO I2.cJ h1 J J J c1 c2 c3 l9.sa l9.nf l9.mo λh' tk' g1 g2 k1=>?_;have vw:s2.heap.get? (c6 s2)=Yj:=Oe<|Yu _;let⟨od,es,ep,e1,e2,e3,e4,e5⟩:=id g2;refine⟨σ,_,Zr2 (φ':=J1 e C<|O<|c6 s2) (o2:=.cY od<|.xd [(f,.int i)]) I2 he vw k1 (λH'=>ZF ⟨vs,sl,tv,g1,h2,h3,h4⟩) λH'=>⟨e1,_,g2,λn=>?_⟩,q2 _ od<|ZG I2 vw⟩;by_cases hn:n=f
 .rw[hn,c_ J,kY,beq_self_eq_true];exact⟨ti,rfl⟩
 .rw[d4 hn,kY,beq_eq_false_iff_ne.mpr hn];exact trivial
end
end L3
set_option linter.all false
namespace L3
noncomputable section
def sy(c f:b9)(g:d_):S3:=λenv M=>match g env M with
 | .ok [.int i] M1=>if i.natAbs.log2<1000 then .exc ⟨c,.ref<|B M1⟩ (M1++[.ins (0::c) [(f,.int i)]])else .bad|_=>.bad
def vU(c f:b9)(d:D)(M:b3):R3 D:=match d with
 | .ref n=>(match M[n]? with
  |some (.ins c' fs)=>if c'=0::c then(match fs with
   |[(g,.int i)]=>if g=f then .ok (.int i) M else .bad|_=>.bad)else .bad
  |_=>.bad)
 |_=>.bad
def Gp(a e:E3):E3:=λenv M=>match pR a env M with
 | .ok x M1=>(match e env M1 with
  | .ok y M2=>.ok (.U [x,y]) M2|.exc q M2=>.exc q M2|.bad=>.bad)
 |_=>.bad
end
end L3
set_option Elab.async false
set_option linter.all false
set_option maxRecDepth 100000
namespace L3
open PySem PySem.Spec PyProof.Rows L2
def QR(C:Yy)(f:aj):Sp:=λvs H Q _=>∃e i,vs=[.ref e,.int i]/\i.natAbs.log2<1000/\H e=O (gY e C Yj)/\∀dx od,H dx=Yj->Q .Z (upd (upd H e<|gY e C<|O dx) dx<|.cY od<|.xd [(f,.int i)])
variable{C:Yy}
section
variable {P:Y9} {w:aQ} {K:Yb} {mg:aj->Option Yh} {base:aH}
theorem fnI{k:Nat}{fI:Yy}{f x qual:aj}{st:Ydv}{fd:lJ}{N ps:List aj}(F:rG K x qual st fI fd)(S:dN N ps (bJ st))(hl:B ps=2)(hb:∀(j0:Yh) (A:bG) (outer:List dz) (s:Yl) (H:Hp) (E:XK),dM k (A.deeper<|nZ qual (bJ st) (c6 s) fI j0)->∃t,lz (qI (rY P w) P w K mg base N qual (bJ st) fI j0 A outer s H E) (jz st) t/\
   ∀D e i,i.natAbs.log2<1000->H e=O (gY e C Yj)->(∀dx od,H dx=Yj->D.nx (L2.start N [.ref e,.int i]) (upd (upd H e<|gY e C<|O dx) dx<|.cY od<|.xd [(f,.int i)]))->t D (L2.start N [.ref e,.int i]) H):
  h_ P w K mg base (rY P w) (k+1) fI fd ps (QR C f):=by
 let⟨oc,od,dV,kV,doc,pm,an,j0,ct,sM,rfl,lk,tI⟩:=F.ex;refine Ws lk tI S (λvs H Q E ⟨e,i,r,_⟩=>by rw[r,hl];rfl) λA outer s H vs Q E hr ak=>?_;let⟨e,i,rfl,hi,he,hq⟩:=ak;let⟨t,ht,q⟩:=hb j0 A outer s H E hr;exact⟨t,ht,q _ e i hi he hq⟩
end
section
variable {X:Cx} {b4:List (Yy×aK)} {σ:St} {H:Hp} {s s':Yl}
def ZxM(I:Inv X b4 σ H s){h':aH}{e:Yy}{vs:List Yh}(m:Heap.MadeExcOf s.heap h' e (.ref C) vs):H e=Yj/\Inv X b4 σ (upd H e<|gY e C Yj) {s with heap:=h'}:=by
 have hn:H e=Yj:=ZG I m.new;let⟨t,ht,_,_⟩:=m.there;have xo:J1 e C Yj h':=⟨_,_,t,ht,i9,rfl,rfl⟩;have ne:∀b o,s.heap.get? b=O o->b≠e:=λb o q z=>by subst z;rw[m.new]at q;cases q
 have un:Un X.fs [] H (upd H e<|gY e C Yj) s.heap h':=
  ⟨λb u q _ _ _=>m.keeps b u q,
   λb u q _ _ _=>⟨u.slots,m.keeps b u q⟩,
   λb u q n _=>by rwa[bH<|ne b u q],
   λb u q _=>⟨u,m.keeps b u q⟩,
   λb xs q=>by rwa[bH<|vf q hn],
   λb u xs q=>by rwa[bH<|vf q hn],
   λb ps q=>⟨#[],by rw[bH<|vf q hn,q];simp⟩⟩
 have i6:gP X.prog X.w (upd H e<|gY e C Yj) h':=λb u q=>by
  by_cases hb:b=e
  .subst hb;rw[iw]at q;cases q;exact ZF xo
  .rw[bH hb]at q;exact(I.i6 b u q).rf (λc v _ z=>m.keeps c v z) (λc z=>by rwa[bH<|vf z hn]) λc xs z=>by rwa[bH<|vf z hn]
 exact⟨hn,I.un (t':=s.toks) un i6⟩
def Zz3{σ':St}{H':Hp}(I:Inv X b4 σ H s){e:Yy}{dd:Option Yy}(z5:s.heap.get? e=Yj)(I':Inv X b4 σ' H' s')(he:H' e=O (gY e C dd)):
  Inv X b4 σ' (upd H' e<|vH e C dd) s'/\YM X e C (upd H' e<|vH e C dd) s':=by
 let⟨⟨vs,sl,tv,h1,h2,h3,h4⟩,_⟩:=(show d9 X.prog X.w H' s'.heap e (gY e C dd)from I'.i6 e _ he);have xo:BZ e C dd s'.heap:=⟨_,_,h1,rfl,rfl,rfl⟩;have ne:∀b o,s.heap.get? b=O o->b≠e:=λb o q z=>by subst z;rw[z5]at q;cases q
 have old:∀{b o},X.s₀.heap.get? b=O o->b∉X.fs->b∉X.ex->b∉e::sR X.stack:=λ{b o} q hb hx z=>by
  rcases Yo.mp z with z|z
  .let⟨o1,q1⟩:=I.base.there b o q hx;exact ne b o1 q1 z
  .exact YQ I' q hb z
 refine⟨CR (t':=s'.toks) (h':=s'.heap) I' he (λb u _ q=>q) λ_=>YN xo,dd,iw,IG s'.heap<|e::sR X.stack,⟨.ref tv,.inr ⟨λb o q=>IA _ q,Iy _<|.head _,?_,_,_,h1,rfl,rfl,h3,h4,rfl⟩⟩,⟨λb hb qA=>?_,λb o q n hb hx=>?_,λb o q hb hx=>?_⟩,λp hp=>?_⟩
 .exact PySem.W.funFrames_hide I'.stack λenv he a ha=>.tail _<|NQ.mpr ⟨env,he,ha⟩
 .rw[bH qA]at hb;let⟨u,q⟩:=Option.ne_none_iff_exists'.mp hb;let⟨o,ho⟩:=Wl<|I'.i6 b u q;exact⟨o,Hq _ ho λz=>(Yo.mp z).elim qA λz=>hb<|I'.Sw b z⟩
 .exact Hq _ (I'.base.keep b o q n hb hx)<|old q hb hx
 .let⟨o1,q1⟩:=I'.base.there b o q hx;exact⟨o1,Hq _ q1<|old q hb hx⟩
 .let⟨q,n,n2,nf,_⟩:=I'.pin p<|pB _ hp;let⟨q0,_⟩:=I.pin p<|pB _ hp;exact Hq _ q λz=>(Yo.mp z).elim (ne _ _ q0) λz=>(Yo.mp<|I'.DW p.1 z).elim n2 nf
end
section
variable {X:Cx}
def ZuN{H:Hp}{e dx:Yy}{ZhR u2 u3 v:HO}(h:dx≠e):upd (upd (upd (upd H e ZhR) e u2) dx v) e u3=upd (upd H dx v) e u3:=by
 funext z;by_cases q:z=e
 .rw[q,iw,iw]
 .rw[bH q,bH q];by_cases q2:z=dx
  .rw[q2,iw,iw]
  .rw[bH q2,bH q2,bH q,bH q]
def ZoA{any:Bool}{c f:b9}{CL fI:Yy}{k:Nat}{fd:lJ}{ps:List aj}{x:aj}{np f_ pos:a_}{a:Expr}{as:List Expr}{gl:d_}(l9:J2 X.K C CL fI (nm f))(ao:ClsAt X.K c C)(yv:(X.K.lookup fI).map (·.cls)=O (.type "function"))(G:h_ X.prog X.w X.K X.mg X.base (rY X.prog X.w) k fI fd ps (QR C<|nm f))(bi:Binds X.K fd ps [])(hr:dM (k+1) X.A)(hm:X.mg x=O (.ref C))(ha:CA X.jP (a::as) gl)(hc:X.calm=true:=by rfl)(hg:Gl X x:=by rfl)(sd:(x==("__debug__":aj))=false:=by decide)(he:Yv (a::as) X.env=(false,aO a X.env)::Yv as X.env:=by rfl)(qv:(b8 f_<|Yv as X.env).any (·.1)=false:=by rfl):vM X any (.Raise (O<|.Call (.Name x np) (a::as) [] f_) Yj pos) (sy c f gl):=by
 let⟨na,q,N,bs,bm,hdct,sn,sub,ab,col,dd,k0,k1,k2,k3,k5,lk,hN,hT⟩:=l9.obj;obtain⟨oI,lI,cI⟩:∃oI,X.K.lookup fI=O oI/\oI.cls= .type "function":=by
  cases z:X.K.lookup fI with
  |none=>rw[z]at yv;cases yv|some oI=>rw[z]at yv;exact⟨oI,rfl,fM yv⟩
 intro b4 s σ H D I z;let⟨ι,M,env,S,E,h⟩:=z;unfold sy at h;split at h
 .rename_i i M1 Zha;split at h
  .rename_i hi;have p4:(b8 f_<|Yv (a::as) X.env).any (·.1)=false:=by rw[he];show(false|| (b8 f_<|Yv as X.env).any (·.1))=false;rw[qv];rfl
   rw[arm_exec_Raise];refine Yc (tD (PySem.W.Adq (C:=C) (nm:=na) (q:=q) (N:=N) (bs:=bs) (bm:=bm) (hdct:=hdct) (sn:=sn) (sub:=sub) (ab:=ab) (col:=col) (dd:=dd) (k0:=k0) (k1:=k1) (k2:=k2) (k3:=k3) (k5:=k5)
    ((hT X.base I.ok.mod.Bj).hasType aaA) (I.ok.hd hc) ?_))
   refine Yc<|gD (wpAny_Call_ofName<|Bl I hg hm ?_ sd) (λv s₃ h₃=>Yc<|tD<|Yr h₃) λ_ _ x=>x;unfold Ei;refine Yc<|fW ?_;have key:=ZA (pos:=f_) (R:=λus s2=>∃vs H1 ι1,Inv X b4 σ H1 s2/\Vals vs us/\Ext X.K H ι H1 ι1/\aF X.K H1 ι1 M1/\aB X.K H1 ι1 [.int i] vs) ha I S E Zha λus s1 vs H1 ι1 I1 r x1 S1 r1=>⟨vs,H1,ι1,I1,r,x1,S1,r1⟩;rw[p4];rw[he]at key |-;refine VL (gD key (λus s2 zz=>?_) λ_ _ y=>y);let⟨vs,H1,ι1,I1,r,x1,S1,r1⟩:=zz;let⟨hp,g,d,tk,os⟩:=s2;refine Yc<|tD ?_;refine Yc<|wpAny_keeperOf_exc (I1.cJ _ _ lk) ?_;let⟨mN,tN,hni⟩:=hN _ I1.cJ;have l1:B us=1:=by rw[<-r.length,r1.length];rfl
   refine Yc (PySem.W.AdA (hT _ I1.cJ) (I1.cJ _ _ lk) tN hni (I1.cJ _ _ lI) cI (by show B us<=_;rw[l1];decide) λh' e mk=>?_);let⟨hn,I2⟩:=ZxM I1 mk;obtain rfl:vs=[.int i]:=by let⟨v,ws,rfl,rv,lV⟩:=aB.cons_inv r1;obtain rfl:=aB.nil_inv lV;obtain rfl:v= .int i:=rv;rfl
   have r2:Vals (V.ref e::[V.int i]) (Value.ref e::us):=.cons J r;have uu:QR C (nm f) (V.ref e::[V.int i]) (upd H1 e<|gY e C Yj) (λv H2=>v= .Z/\∃dx od,H1 dx=Yj/\dx≠e/\H2=upd (upd (upd H1 e<|gY e C Yj) e<|gY e C<|O dx) dx (.cY od<|.xd [(nm f,.int i)])) E0:=
    ⟨e,i,rfl,hi,iw,λdx od hd=>by
     have y4:dx≠e:=by rintro rfl;rw[iw]at hd;cases hd
     rw[bH y4]at hd;exact⟨rfl,dx,od,hd,y4,rfl⟩⟩
   have hl:(Value.ref e::us++[]).length=B ps:=by have z:=r2.length;rw[G.len _ _ _ _ uu]at z;rw[iD];exact z.symm
   have BA:=bi _ (Value.ref e::us) I2.cJ hl;rw[iD]at BA;refine q9<|tE (G.run _ X.stack _ _ ⟨Value.ref e::us,[]⟩ (Value.ref e::us) _ _ E0 (hr.make C us []) (I2.env0.make C us []) BA r2 uu) λr s' ub=>?_;cases r with
   |error e=>exfalso;let⟨_,_,_,_,_,_,_,_,_,_,_,_,_,z⟩:=ub;exact z|ok fl=>
    cases fl with
    |next=>exact fZ ub|brk=>exact fZ ub|cont=>exact fZ ub|ret u=>
     let⟨v,H',I3,rv,ev,dx,od,vw,y4,eH⟩:=I2.after ub;subst ev eH;have h3:(upd (upd (upd H1 e<|gY e C Yj) e<|gY e C<|O dx) dx<|.cY od<|.xd [(nm f,.int i)]) e=O (gY e C<|O dx):=by rw[bH<|cu y4,iw]
     let⟨I4,QH⟩:=Zz3 I1 mk.new I3 h3;let⟨⟨Ex,sl,tv,g1,g2,g3,g4⟩,_⟩:=(show d9 X.prog X.w _ s'.heap e (gY e C<|O dx)from I3.i6 e _ h3);refine⟨rv,Yc<|fW<|Hz<|Yr ⟨e,O dx,Ex,sl,rfl,I3.cJ _ _ lk,g1,g4,?_⟩⟩;rw[ZuN y4]at I4 QH;have L1:Loose H1 dx:=.inl vw;have S2:aF X.K (upd H1 dx<|.cY od<|.xd [(nm f,.int i)]) ι1 M1:=S1.other L1<|S1.fresh vw;have ua:upd H1 dx (.cY od<|.xd [(nm f,.int i)]) e=Yj:=by rwa[bH<|cu y4]
     refine h σ e C _ (ι1++[e]) (λ_=>rfl) (x1.trans<|L1.ext.trans<|Loose.Hi<|.inl ua) (S2.new ua<|.inr ⟨C,O dx,iw,rfl,ao,.inr ⟨dx,od,[(nm f,.int i)],rfl,?_,rfl,?_⟩⟩) (Rep.ref (by rw[<-S2.len];simp)) ao b4 _ I4 QH
     .rw[bH y4,iw]
     .exact aB.cons J aB.nil
  .exact h.elim
 .exact h.elim
structure ZJ(K:Yb)(c:b9)(C:Yy)(f:aj):Prop where
 ao:ClsAt K c C
 ga:fJ K (.ref C) "__getattribute__" =O (O<|.builtin "BaseException.__getattribute__")
 gt:fJ K (.ref C) "__getattr__" =O Yj
 mb:wD K C (.type "BaseException")=O true
 cd:(mW K C).map (·.hasDict)=O true
 nf:fJ K (.ref C) f=O Yj
def ZK{c m:b9}{e:Expr}{f:E3}{fn:aj}{pos:a_}(G:ZJ X.K c C (nm m))(he:C3 X e f)(hf:fn=nm m:=by decide +kernel)(hb:o9 e fn X.env (aO e X.env)=aO e X.env:=by rfl):C3 X (.Attribute e fn pos) (e1 (vU c m) f):=by
 subst hf;intro b4 s σ H Q I h;let⟨ι,M,env,S,E,h⟩:=h;let⟨d,M1,e1,hh⟩:=au.bind h;refine P8 hb (aP (he b4 s σ H (λv H1=>∃ι1,Ext X.K H ι H1 ι1/\aF X.K H1 ι1 M1/\Rep X.K H1 ι1 d v) I ⟨ι,M,env,S,E,by rw[e1];exactλv H1 ι1 x1 S1 r1=>⟨ι1,x1,S1,r1⟩⟩) λu s1 z=>?_);let⟨v,H1,I1,rv,ι1,x1,S1,r1⟩:=z;unfold vU at hh;split at hh
 .rename_i n;split at hh
  .rename_i c' fs hn;split at hh
   .rename_i ec;subst ec;split at hh
    .rename_i g i;split at hh
     .rename_i eg;subst eg;let⟨a,ha,rfl⟩:=r1.fG;obtain rfl:u=Value.ref a:=rv;rcases S1.obj n _ a hn ha with⟨_,_,_,_,⟨_,z⟩,_⟩|⟨C',dd,q,_,ca,z⟩
      .exact k9 J z
      obtain rfl:C'=C:=by have z1:=ca.symm.trans G.ao;injection z1 with z1;injection z1 with z1;injection z1
      rcases z with z|⟨dx,od,gs,rfl,vw,QS,fr2⟩
      .cases z
      let⟨⟨o,vs,h1,h2,h3,h4⟩,_⟩:=(show d9 X.prog X.w H1 s1.heap a (vH a C'<|O dx)from I1.i6 a _ q);let⟨_,mA,tN,hm⟩:=(show d9 X.prog X.w H1 s1.heap dx (.cY od<|.xd gs)from I1.i6 dx _ vw);obtain⟨cd,c1,c2⟩:∃cd,mW X.K C'=O cd/\cd.hasDict=true:=by
       cases z:mW X.K C' with
       |none=>have:=G.cd;rw[z]at this;cases this|some cd=>have:=G.cd;rw[z]at this;exact⟨cd,rfl,fM this⟩
      have Zhd:gs.lookup (nm g)=O (.int i):=by
       let⟨v,ws,e2,r3,r4⟩:=aB.cons_inv fr2;obtain rfl:=aB.nil_inv r4;obtain rfl:v= .int i:=r3
       match gs,QS,e2 with
       |[(a,b)],QS,e2=>simp at QS e2;subst QS e2;rw[kY,beq_self_eq_true]
      have hm:=hm<|nm g;rw[Zhd]at hm;cases hv:mA (nm g)with
      |none=>rw[hv]at hm;exact hm.elim|some hu'=>rw[hv]at hm;obtain⟨ti,rfl⟩:∃t,hu'=Value.int i t:=hm;exact PySem.W.AdN G.ga G.gt G.mb I1.cJ ⟨o,h1,h2⟩ (PySem.W.Adz I1.cJ h1 h2 h3 h4 tN hv c1 c2 G.nf) J ⟨.int i,H1,I1.tok _,⟨ti,rfl⟩,hh _ _ ι1 x1 S1 J⟩
     .exact hh.elim
    .exact hh.elim
   .exact hh.elim
  .exact hh.elim
 .exact hh.elim
end
end L3
set_option Elab.async false
set_option linter.all false
set_option maxRecDepth 100000
namespace L3
open PySem PySem.Spec PyProof.Rows L2
structure ZL(K:Yb)(c:b9)(C CL fI:Yy)(f qual:aj)(st:Ydv)(ps:List aj):Prop where
 own:J2 K C CL fI f
 ao:ClsAt K c C
 fn:∃fd,rG K "__init__" qual st fI fd/\Binds K fd ps []
 fc:(K.lookup fI).map (·.cls)=O (.type "function")
def fy(P:Y9)(w:aQ)(K:Yb)(mg:aj->Option Yh)(base:aH)(C fI:Yy)(f:aj)(ps:List aj):Prop:=∃fd,Binds K fd ps []/\h_ P w K mg base (rY P w) 1 fI fd ps (QR C f)
def Zy2{C:Yy}{f:aj}{e:Yy}{i:Int}{H:Hp}{D:Ends}{N:List aj}(hN:B N=2)(hi:i.natAbs.log2<1000)(he:H e=O (gY e C Yj))(hq:∀dx od,H dx=Yj->D.nx (L2.start N [.ref e,.int i]) (upd (upd H e<|gY e C<|O dx) dx<|.cY od<|.xd [(f,.int i)])):
  Pm (Po<|Je (λxs H Q=>∃e y,xs=[.ref e,.str y]/\H e=O (gY e C Yj)/\Q .Z H)<|Py (I_ 0)<|Py (λσ H Q=>I_ 1 σ H λy H1=>∃i,y= .int i/\i.natAbs.log2<1000/\∀z,Q (.str z) H1) Wq)
   (λD σ H=>I_ 1 σ H λy H1=>I_ 0 σ H1 λx H2=>∃e i,x= .ref e/\y= .int i/\H2 e=O (gY e C Yj)/\∀dx od,H2 dx=Yj->D.nx σ (upd (upd H2 e<|gY e C<|O dx) dx<|.cY od<|.xd [(f,.int i)])) D (L2.start N [.ref e,.int i]) H:=by
 have h0:(L2.start N [.ref e,.int i])[0]?=O (O<|.ref e):=rfl;have h1:(L2.start N [.ref e,.int i])[1]?=O (O<|.int i):=rfl;exact⟨_,h0,_,h1,i,rfl,hi,λz=>⟨e,z,rfl,he,_,h1,_,h0,e,i,rfl,rfl,he,hq⟩⟩
def QT{X:Cx}{any:Bool}{c f:b9}{C CL fI:Yy}{qual fn:aj}{st:Ydv}{ps:List aj}{x:aj}{np f_ pos:a_}{a:Expr}{as:List Expr}{gl:d_}(R:ZL X.K c C CL fI fn qual st ps)(G:fy X.prog X.w X.K X.mg X.base C fI fn ps)(hr:dM 2 X.A)(hm:X.mg x=O (.ref C))(ha:CA X.jP (a::as) gl)(hf:fn=nm f:=by decide +kernel)(hc:X.calm=true:=by rfl)(hg:Gl X x:=by rfl)(sd:(x==("__debug__":aj))=false:=by decide)(he:Yv (a::as) X.env=(false,aO a X.env)::Yv as X.env:=by rfl)(qv:(b8 f_<|Yv as X.env).any (·.1)=false:=by rfl):vM X any (.Raise (O<|.Call (.Name x np) (a::as) [] f_) Yj pos) (sy c f gl):=by subst hf;let⟨fd,b,G⟩:=G;exact ZoA (CL:=CL) R.own R.ao R.fc G b hr hm ha hc hg sd he qv
section
variable {K:Yb} {c:b9} {C CL fI:Yy} {f qual:aj} {st:Ydv} {ps:List aj}
def Zyp{na q:aj}{N:Yy}{bs bm:List Yh}{hdct:Bool}{sn:List aj}{sub:List Yh}{ab:Bool}{col:Option Bool}{dd:Option Yy}{k0 k1 k2 k3 k5:Option Yh}{cd:PySem.ClassData}{oc dV kV doc pm j0 ct:Yh}{od an:Option Yy}{sM:Array (Option Yh)}(ao:ClsAt K c C)(lk:K.lookup C=O (yx na q C N bs bm hdct sn sub ab col dd k0 k1 k2 k3 k5 "ValueError.__new__"))(hN:∀h:aH,K.In h->∃mN,h.Ns N mN/\mN "__init__" =O (.ref fI))(hT:∀h:aH,K.In h->OwnTail h PySem.W.uw bm)(cl:mW K C=O cd)(c2:cd.hasDict=true)(c3:cd.mro= .ref C:: .ref CL::PySem.W.uw)(sa:fJ K (.ref C) "__setattr__" =O (O<|.builtin "object.__setattr__"))(nf:fJ K (.ref C) f=O Yj)(mo:wD K C (.type "object")=O true)(ga:D_ K (.ref CL) "__getattribute__" =O (O<|.builtin "type.__getattribute__"))(rd:Tt K CL (.type "type")=true)(fc:Tu K (.ref CL) (.type "type") "__init__" =O (.val<|.builtin "ValueError.__init__"))(l:K.lookup fI=O ⟨oc,od,.func<|q8 "__init__" qual (oA st) (jz st) (bJ st) dV kV doc pm an j0 ct,sM⟩)(ci:Ea K j0 qual=true)(kp:sZ K (.ref fI)=true)(ho:oc= .type "function")(b:Binds K (q8 "__init__" qual (oA st) (jz st) (bJ st) dV kV doc pm an j0 ct) ps []):ZL K c C CL fI f qual st ps:=⟨⟨⟨na,q,N,bs,bm,hdct,sn,sub,ab,col,dd,k0,k1,k2,k3,k5,lk,hN,hT⟩,⟨cd,cl,c2,c3⟩,sa,nf,mo,ga,rd,fc⟩,ao,⟨_,⟨⟨oc,od,dV,kV,doc,pm,an,j0,ct,sM,rfl,l,ci⟩,kp⟩,b⟩,by rw[l,ho];rfl⟩
def Zqg{cd:PySem.ClassData}(ao:ClsAt K c C)(ga:fJ K (.ref C) "__getattribute__" =O (O<|.builtin "BaseException.__getattribute__"))(gt:fJ K (.ref C) "__getattr__" =O Yj)(mb:wD K C (.type "BaseException")=O true)(cl:mW K C=O cd)(c2:cd.hasDict=true)(nf:fJ K (.ref C) f=O Yj){m:b9}(hf:f=nm m:=by decide +kernel):ZJ K c C (nm m):=by subst hf;exact⟨ao,ga,gt,mb,by rw[cl,<-c2];rfl,nf⟩
end
section
variable {X:Cx} {a e:Expr} {f h:E3} {pos:a_}
def ZxR{x1}(ho:C3 X.jP a f)(he:Gh X e h)(xE:Yv [a,e] X.env=(false,aO a X.env)::Yv [e] X.env:=by rfl)(hs:Yv [e] X.env=(false,aO e X.env)::Yv [] X.env:=by rfl):Gh X (.Tuple [a,e] x1 pos) (Gp f h):=
 (Wr<|qG (PE.jP ho) (qG he zc hs) xE).imp λσ H Q ak=>by
 let⟨ι,M,env,S,E,hh⟩:=ak;refine⟨ι,M,env,S,E,?_⟩;unfold Gp pR at hh;cases q:f env M with
 |bad=>rw[q]at hh;exact hh.elim|exc x M1=>rw[q]at hh;exact hh.elim|ok a M1=>
  rw[q]at hh;intro v H1 ι1 x1 S1 r1;refine⟨ι1,M1,env,S1,E.mono x1,?_⟩;dsimp only at hh;cases q2:h env M1 with
  |bad=>rw[q2]at hh;exact hh.elim|exc x M2=>rw[q2]at hh;exactλa C H' ι' x2 S1 r1 c1=>hh a C H' ι' (x1.trans x2) S1 r1 c1|ok d M2=>rw[q2]at hh;intro v2 H2 ι2 x2 S2 r2;refine⟨by show 2<=bI;decide,λp hp=>?_⟩;let⟨x3,S3,r3⟩:=S2.wz hp<|aB.cons (r1.mono x2)<|aB.cons r2 aB.nil;exact hh _ _ _ ((x1.trans x2).trans x3) S3 r3
end
open PySem
noncomputable section
end
end L3
namespace L3
open PySem
noncomputable section
local instance (priority:=100000) AfW (p:Prop):Decidable p:=Yz p
end
end L3
namespace L3
open PySem
noncomputable section
end
end L3
namespace L3
open PySem PySem.W PyProof.Rows PySem.Calls
variable{p:Y9}{X:Yl->Bool}{ann:Option Yh}{L:List aj}
def Zuw{q:Y9}{α:Type}{Y:Yl->α}{a:α}{N:Nat}{g0:Bool}{w:aQ}{H:aH}{gs:Array GenState}{d:Drawn}{k m M:Nat}(ho:(fencedOpening qw p w N).map (λs=>(s.heap,s.gens,s.drawn,s.toks))=O (H,gs,d,k))(hz:(H.isNs Y7&&gs.size==0,H.objs.size,H.nsMap Y7 "__annotations__")=(true,m,ann))(hr:∀os,∃s,topRun qw p w m ann M ⟨H,gs,d,k,os⟩ (topStub p)=O s/\(staticsOk (Ef p.main.body) H s.heap&&namesBound p s.heap&&gensDone s&&laidKept H s.heap)=true/\openSeen q L (Ef p.main.body) X g0 s=openGood q L/\Y s=a)(hl:qz M N=true):(openEnds qw p w N).map (λs=>(openSeen q L (Ef p.main.body) X g0 s,Y s))=O (openGood q L,a):=by
 let⟨⟨h,xC,d',k',os⟩,e,e'⟩:=Mu.mp ho;obtain⟨rfl,rfl,rfl,rfl⟩:h=H/\xC=gs/\d'=d/\k'=k:=by cases e';exact⟨rfl,rfl,rfl,rfl⟩
 have z1:=congrArg (·.1) hz;have z2:=congrArg (·.2.1) hz;have z3:=congrArg (·.2.2) hz;dsimp only at z1 z2 z3;let⟨s,r,l1,l2,l3⟩:=hr os;have r:=topRun_mono (N-M) _ _ _ _ r;rw[show M+(N-M)=N from Nat.add_sub_cancel' (N7 hl)]at r;have t:topFrom qw p w N ⟨h,xC,d',k',os⟩=O s:=by unfold topFrom;dsimp only;rw[z1,z2,z3,r];show(match staticsOk (Ef p.main.body) h s.heap&&namesBound p s.heap&&gensDone s&&laidKept h s.heap with|true=>_|false=>_)=_;rw[l1]
 unfold openEnds;rw[e];show(topFrom qw p w N _).map _=_;rw[t];exact congrArg O<|V0 l2 l3
def Zxm{w:aQ}{m:Nat}{s:Yl}{c:Code}{pos q:a_}:topRun qw p w m ann 2 s ⟨doneF .next,c,pos,[topFrame q]⟩=O s:=by let⟨a,b,d,e,f⟩:=s;rfl
def ZwM{w:aQ}{m:Nat}{n0 n1 n:Nat}{S Sa:Yl}{T T':SharedT}{b:List Ydv}{env:dz}{q pos BC AG:a_}(ha:topGo qw p w m ann n0 S (topStub p)=O (Sa,⟨denote qw<|.body b env,.body b env,pos,[topFrame q]⟩))(hb:segRun qw p w m ann 1 n1 Sa (blockOf b env (.body b env) pos [topFrame q])=O (.next,T.abs,.body b env,BC))(hr:segRunT qw p w m ann 1 n T (piecesOf b env (.body b env) BC [topFrame q])=O (.next,T',.body b env,AG)):
  topRun qw p w m ann (n0+(n1+(n+2))) S (topStub p)=O T'.abs:=by
 have h:=piece_app (rest:=[]) (segRun_of hr)<|piece_nil Zxm;rw[iD]at h;exact go_top ha<|piece_block hb h
def ZxH{A i8 C D E F:Type}{a a':A}{b b':i8}{c c':C}{d d':D}{e e':E}{f f':F}(h:(a,b,c,d,e,f)=(a',b',c',d',e',f')):a=a'/\b=b'/\c=c'/\d=d'/\e=e'/\f=f':=by cases h;exact⟨rfl,rfl,rfl,rfl,rfl,rfl⟩
def ZM:List aK->List aK
 |a::_::l=>a::ZM l|l=>l
def ZP:Nat->List aK->BT
 |n+1,o::l=>.node o (ZP n<|ZM l) (ZP n<|ZM l.tail)|_,_=>.nil
abbrev hV(p:Y9):dz:={scope:=p.main.scope,locals:=mainNs,globals:=mainNs,cells:=[],code:=.ref 13,frame:=O 14}
abbrev hO:a_:=⟨0,0,0,0⟩
abbrev hK(p:Y9):Code:=.body (behindTheImports p)<|hV p
abbrev hF:List Frame:=[topFrame hO]
abbrev hS(w:aQ)(os:OsState):Yl:=⟨boot_heap w.params,⟨[]⟩,boot_drawn,boot_toks,os⟩
def hT(s:Yl):SharedT:=⟨ZP 8 s.heap.objs.toList,c6 s,s.heap.life,s.gens,s.drawn,s.toks,s.os⟩
abbrev hU:=Fast.tw14364793385576792824
abbrev hW(w:aQ)(b:Bool):aQ:=w.withFollow "special-get-raises" b
def ZQ(p:Y9)(w:aQ)(os:OsState):=Fast.tw15667345088766844465 hU p w 11 (O<|.ref 6) 12 (hS w os)<|topStub p
def mc(p:Y9)(w:aQ)(os:OsState):Yl:=match ZQ p w os with|some x=>x.1|none=>hS w os
def ZR(p:Y9)(w:aQ)(os:OsState):=Fast.tw14374325043358763698 hU p w 11 (O<|.ref 6) 1 1 (mc p w os)<|blockOf (behindTheImports p) (hV p) (hK p) hO hF
def ZS(p:Y9)(w:aQ)(os:OsState):SharedT:=match ZR p w os with|some x=>hT x.2.1|none=>hT<|hS w os
def ZV(p:Y9)(n:Nat)(w:aQ)(os:OsState):=Fast.tw10110043849684766642 hU p w 11 (O<|.ref 6) 1 n (ZS p w os)<|piecesOf (behindTheImports p) (hV p) (hK p) hO hF
def Cv(p:Y9)(n:Nat)(w:aQ)(os:OsState):SharedT:=match ZV p n w os with|some x=>x.2.1|none=>ZS p w os
abbrev BD(p q:Y9)(L:List aj)(X:Yl->Bool)(A:List Yy)(K:Params->Frag)(n:Nat)(z:a_)(w:aQ):Prop:=∀os,(ZQ p w os,ZR p w os,ZV p n w os,
  (staticsOk (Fast.tw5923862056798008813 p.main.body) (boot_heap w.params) (Cv p n w os).abs.heap&&namesBound p (Cv p n w os).abs.heap&&gensDone (Cv p n w os).abs&&laidKept (boot_heap w.params) (Cv p n w os).abs.heap),
  Fast.tw4187177175401517315 q L (Fast.tw5923862056798008813 p.main.body) X true (Cv p n w os).abs,A.map (Cv p n w os).abs.heap.get?)=
 (O (mc p w os,⟨Fast.tw11892475500146522536 hU<|hK p,hK p,hO,hF⟩),O (.next,(ZS p w os).abs,hK p,hO),O (.next,Cv p n w os,hK p,z),true,openGood q L,(K w.params).map λp=>O p.2)
def Bs{q:Y9}{A:List Yy}{K:Params->Frag}{n N:Nat}{z:a_}{w:aQ}(e:opening p=plainProg p.main.scope.names)(f:∀s,fenceModules? p s=O s)(hN:qz 600 N=true)(hl:qz (12+(1+(n+2))) N=true)(h:BD p q L X A K n z w):
  (openEnds qw p w N).map (λs=>(openSeen q L (Ef p.main.body) X true s,A.map s.heap.get?))=O (openGood q L,(K w.params).map λp=>O p.2):=by
 refine Zuw (boot_open e hN f _) (m:=11) (ann:=O<|.ref 6) (M:=12+(1+(n+2))) aaD (λos=>?_) hl;have h:=h os;unfold ZQ ZR ZV hU at h;rw[<-Fast.te15667345088766844465,<-Fast.te14374325043358763698,<-Fast.te10110043849684766642,<-Fast.te14364793385576792824,<-Fast.te5923862056798008813,<-Fast.te4187177175401517315,<-Fast.te11892475500146522536]at h;let⟨h1,h2,h3,h4,h5,h6⟩:=ZxH h;exact⟨_,ZwM h1 h2 h3,h4,h5,h6⟩
def Zw5{q:Y9}{A:List Yy}{K:Params->Frag}{n N:Nat}{z:a_}(e:opening p=plainProg p.main.scope.names)(f:∀s,fenceModules? p s=O s)(hN:qz 600 N=true)(hl:qz (12+(1+(n+2))) N=true)(h0:∀w,BD p q L X A K n z<|hW w false)(h1:∀w,BD p q L X A K n z<|hW w true):
  LeftO p q L X (λs=>A.map s.heap.get?) (λw=>(K w.params).map λp=>O p.2) N:=λw=>
 byRow2 "special-get-raises" (P:=λw=>(openEnds qw p w N).map (λs=>(openSeen q L (Ef p.main.body) X true s,A.map s.heap.get?))=O (openGood q L,(K w.params).map λp=>O p.2)) (λw=>Bs e f hN hl<|h0 w) (λw=>Bs e f hN hl<|h1 w) w
end L3
set_option maxHeartbeats 4000000
abbrev sv:List Nat:=[66,108,111,99,107]
abbrev sC:List Nat:=[66,97,100,82,111,119]
abbrev tT:List Nat:=[97,100,100]
abbrev va:List Nat:=[115,117,98]
abbrev vb:List Nat:=[109,111,114,101]
abbrev vx:List Nat:=[108,105,115,116,115]
abbrev xI:List Nat:=[114,111,119]
abbrev xS:List Nat:=[104,101,97,100]
abbrev AJ:List Nat:=[99,101,108,108]
abbrev AV:List Nat:=[119,104,101,110]
abbrev AW:List Nat:=[119,104,105,108,101]
abbrev BE:List Nat:=[115,101,116]
abbrev BF:List Nat:=[112,117,116]
abbrev BG:List Nat:=[116,101,108,108]
abbrev BH:List Nat:=[101,108,115,101]
abbrev BI:List Nat:=[101,110,100]
abbrev BM:List Nat:=[116,97,107,101]
abbrev Cs:List Nat:=[97,98,99,100,101,102,103,104,105,106,107,108,109,110,111,112,113,114,115,116,117,118,119,120,121,122]
abbrev Ct:List Nat:=[115,101,116,115]
abbrev CB:List Nat:=[100,101,101,100]
abbrev EJ:List Nat:=[48,49,50,51,52,53,54,55,56,57]
theorem tm(N:List aj)(h:N.Nodup:=by decide +kernel):N.Nodup:=h
abbrev so:List aj:=["words"]
abbrev tq:List aj:=["word"]
abbrev uj:List aj:=["deck"]
abbrev ya:List aj:=["self","head"]
abbrev yb:List aj:=["cell"]
abbrev yf:List aj:=["deck","names","first"]
abbrev zd:List aj:=["self","row"]
abbrev AX:List aj:=["deck","names","deep","most"]
abbrev BN:List aj:=["stack","deeds"]
abbrev CC:List aj:=["words","sums","depths","word"]
abbrev CD:List aj:=["blocks","word"]
abbrev CF:List aj:=["blocks","deed"]
abbrev CH:List aj:=["rows","behind"]
abbrev CM:List aj:=["deck","names","cell"]
abbrev CU:List aj:=["deck","names","stack","deeds"]
abbrev CY:List aj:=["deck","names","many","most"]
abbrev C0:List aj:=["deck","names"]
abbrev C2:List aj:=["text","row"]
abbrev EK:List aj:=["words","parts","deeper","part"]
abbrev EL:List aj:=["words","sums","depths","deeper","one"]
abbrev EM:List aj:=["text","lines","rows","taken","number","line"]
abbrev w_:List aj:=["words","sums","lacking","word","one"]
abbrev hJ:List aj:=["words","begin","sums","word"]
abbrev cc:List aj:=["blocks","deed","inner","whole","deeds"]
abbrev Mc:List aj:=["deed","words","part","word"]
abbrev oT:List aj:=["deck","names","many","most","rows","stack","deeds","used","k","kept","row","behind","block"]
abbrev hσ:List aj:=["deck","names","first","cell","way","some","own","odd","k"]
namespace Law
open PySem L3
noncomputable section
def v_:E3:=eC<|.str EJ
def Af:E3:=eC<|.str Cs
def qT:nA:=[(AV,2),(AW,1)]
def Ad:E3:=eC<|.int 12
def uM:E3:=eC<|.int 6
def qm:E3:=eC<|.int 60
def uK:E3:=eC<|.int 8
def v9:E3:=eC<|.int 6
def uN:E3:=eC<|.int 60
def qU:nA:=[(tT,2),(va,2),(vb,2),(AJ,1)]
def fj:nA:=[(BE,1),(BF,2),(BG,1),(AV,1),(BH,0),(AW,1),(BI,0)]
def dG:d6:=[BM,BE,BF,BG,AV,BH,AW,BI,tT,va,vb,AJ]
def xO:E3:=eC<|.U<|dG.map D.str
abbrev ja:=aU fQ qJ (Zb 1)<|Za (eC<|.str [48]) Ze
abbrev eh:=aG ja (aM<|e2 aN (Zb 0)<|eC<|.str [48]) aW
abbrev fA:=aM<|aD uc<|Za (gU (eG<|Zb 1) 1 (cV 2) []<|e2 ni (Zb 2) v_) Ze
abbrev oy:=Za (Zb 1) Ze
abbrev mM:=aD aV oy
abbrev px:=eC<|.int 1
abbrev iA:=e2 eE mM px
abbrev iX:=aU fQ qJ (Zb 0)<|Za (eC<|.str [45]) Ze
abbrev kM:=e2 dW mM qm
abbrev om:=aX px
abbrev kS:=bf (Zb 0) om bh
def Gq:S3:=Zt (aC 1<|j5 iX kS<|Zb 0)<|Zt (aG (dh iA kM) (aM<|eC<|.bl false) aW)<|Zt eh fA
def mD:F3:=cR 1 2 Gq
abbrev nX:=e1 cU px
abbrev oz:=Za (Zb 3) Ze
abbrev pz:=eC<|.int 0
abbrev bX:=Zt (bC<|aU bK cD (e2 Zn (Zb 1) nX) oz)<|aC 2<|e2 Zv (e2 iu (Zb 2) px)<|e2 (xu qU) (Zb 3) pz
abbrev oj:=Za (Zz Ze) Ze
abbrev dn:=aG (e2 aN (Zb 2) pz) (Zt (bC<|aU bK cD (Zb 1) oj)<|aC 2 px) aW
abbrev oB:=Za (Zb 4) Ze
abbrev mP:=aD iy oB
def QV:S3:=Zt (aC 1<|Zz Ze)<|Zt (aC 2 pz)<|Zt (vB (eG<|Zb 0) (cV 3)<|Zt dn bX)<|aM<|j5 (e2 aN (Zb 2) pz) (gU (eG<|Zb 1) 1 (cV 4) [] mP)<|eC .Z
def xP:F3:=cR 1 4 QV
def h₆:S3:=aM<|e1 (xN qU)<|Zb 0
def xQ:F3:=cR 1 1 h₆
def ZW:S3:=aM<|aJ xP<|Za kS Ze
def QW:F3:=cR 1 1 ZW
abbrev oC:=Za (Zb 0) Ze
def ZX(rec:F3):S3:=Zt (aC 1<|aJ QW oC)<|aM<|aD (Cr 1)<|Za (zy (W5<|Zb 1) 2 (oH [2,3]) []<|e2 Zv (aJ rec oz)<|Zb 2) Ze
def Cw:Nat->F3
 |0=>cR 1 2 Tx|n+1=>cR 1 2<|ZX<|Cw n
def J3:F3:=Cw 61
abbrev mS:=aD aV oC
abbrev iE:=e2 eE mS px
abbrev kP:=e2 dW mS uK
def QX:S3:=Zt (aG (dh iE<|dh kP<|e2 ni (Zb 0) xO) (aM<|eC<|.bl false) aW)<|aM<|aD uc<|Za (gU (eG<|Zb 0) 1 (cV 1) []<|e2 ni (Zb 1) Af) Ze
def lE:F3:=cR 1 1 QX
abbrev oP:=Za (Zb 2) Ze
abbrev eK:=pR<|e1 pH<|aD uc<|Za (gU (eG<|Zb 1) 1 (cV 2) []<|aJ lE oP) Ze
abbrev ky:=Za (e2 Zn (Zb 0) pz) Ze
abbrev eS:=sy sC xI ky
abbrev gz:=e2 iJ (aD J0 oy) mM
abbrev mT:=aD iy oy
def J4:S3:=Zt (fK<|aC 1<|bf (e2 Zn (Zb 0) px) om bh)<|Zt (aG (pR<|dh iA<|dh (e2 dW mM v9) gz) eS<|fK aW)<|Zt (aG eK eS<|fK aW)<|fK<|aM mT
def vV:F3:=cR 1 2 J4
def se:S3:=Zt (Jx sv xS (Zb 0)<|Zb 1)<|Jx sv vx (Zb 0)<|Zz oj
def zQ:F3:=cR 2 2 se
abbrev fT:=j5 (e2 pI (aD (Cr 0) oP) uM) (Zb 1)<|eC .Z
abbrev nc:=aJ xQ oz
abbrev ng:=aJ lE oz
abbrev nk:=aJ mD oz
abbrev nv:=aD vG oz
abbrev pe:=aM<|eC .Z
def Gr:S3:=Zt (aG (e1 pH<|aD uc<|Za (gU (eG<|Zb 0) 1 (cV 3) []<|dh nc<|dh ng nk) Ze) pe aW)<|Zt (aC 1<|aJ xP<|Za (gU (eG<|Zb 0) 1 (cV 3) []<|j5 nk nv<|Zb 3) Ze)<|Zt (aG (e2 pJ (Zb 1)<|eC .Z) pe aW)<|Zt (aC 2<|zy (W5<|Zb 1) 2 (oH [3,4]) []<|e2 Zv (aJ J3 oB)<|Zb 3)<|aM fT
def ux:F3:=cR 1 3 Gr
abbrev kg:=e1 (zP fj)<|e2 Zn (Zb 0) pz
abbrev ny:=aD aV oP
abbrev cq:=aG (dh (e2 pJ (Zb 2)<|eC .Z)<|e2 iJ ny kg) pe aW
abbrev fF:=aM<|aD iy<|Za (e2 Zv (bf (Zb 0) bh<|aX<|Zb 1)<|Zb 2) Ze
abbrev mB:=eC<|.str BE
abbrev gc:=e2 aN (e2 Zn (Zb 0) pz) mB
abbrev gI:=aC 2<|aJ ux<|Za (bf (Zb 0) (aX<|Zb 1) bh) Ze
abbrev kf:=bf (Zb 0) om<|aX<|Zb 1
abbrev pE:=eC<|.int 2
def zR:S3:=Zt (aG (dh (e1 (Gm fj)<|e2 Zn (Zb 0) pz)<|e2 dW mS uN) pe aW)<|Zt (aC 1<|j5 gc pE px)<|Zt (aG (e1 pH<|aD uc<|Za (gU (eG kf) 1 (cV 3) [] ng) Ze) pe aW)<|Zt gI<|Zt cq fF
def Cy:F3:=cR 1 3 zR
abbrev gS:=e1 (lC sv xS)<|Zb 2
abbrev fk:=e2 Zn gS pz
abbrev iF:=lC sv vx
abbrev gu:=e1 iF<|Zb 2
abbrev js:=aC 2<|e2 Zn (Zb 0) nX
abbrev lr:=eC<|.str BH
abbrev lx:=eC<|.str AV
abbrev mE:=eC<|.str BI
def ZZ:S3:=Zt js<|Zt (aC 3<|e2 aN (e2 (xu qT) fk pz)<|aD aV<|Za gu Ze)<|Zt (aG (e1 (xN qT)<|Zb 1) (aM<|e2 pI mS Ad) aW)<|Zt (aG (e2 aN (Zb 1) lr) (aM<|cN (e2 aN fk lx)<|e1 pH<|Zb 3) aW)<|Zt (aG (e2 aN (Zb 1) mE) (aM<|Zb 3) aW)<|aM<|eC<|.bl true
def Gs:F3:=cR 2 4 ZZ
abbrev lP:=e2 Zn (Zb 1) pz
def Cz:S3:=Zt js<|aG (e1 (xN qT) lP) (bC<|aU bK cD (Zb 0)<|Za (BX sv zQ oy) Ze)<|aG (e2 aN lP lr) (bC<|aU bK cD gu oj)<|aG (e2 aN lP mE) (Zt (bC<|aU bK rJ (Zb 0) Ze)<|Zt (aC 3<|e2 Zv gS<|aD iy<|Za (gU (eG gu) 1 (cV 4) [] mP) Ze)<|bC<|aU bK cD (e2 Zn (e1 iF<|e2 Zn (Zb 0) nX) nX) oz)<|bC<|aU bK cD (e2 Zn gu nX) oy
def xR:F3:=cR 2 4 Cz
abbrev dC:=pR<|dh (e2 pJ (Zb 5)<|eC .Z)<|e1 pH<|aJ Gs<|Za (Zb 2)<|Za (e2 Zn (Zb 5) pz) Ze
abbrev iL:=fK<|bC<|aJ xR<|Za (Zb 2)<|Za (Zb 5) Ze
abbrev ma:=e2 Zn (Zb 2) pz
def Z0:S3:=Zt (fK<|aC 2<|Zz<|Za (BX sv zQ<|Za (ji<|Za (eC<|.str [112,114,111,103,114,97,109]) Ze) Ze) Ze)<|Zt (Jz (eG<|Zb 0) (oH [3,4])<|Zt (fK<|aC 5<|aJ Cy oB)<|Zt (aG dC (sy sC xI oz)<|fK aW) iL)<|Zt (aG (pR<|e2 dW ny px) (sy sC xI oy)<|fK aW)<|fK<|aM<|aD iy<|Za (e2 Zn (e1 iF ma) pz) Ze
def uy:F3:=cR 2 6 Z0
abbrev jv:=oK<|Za ma Ze
abbrev cS:=Zt (aC 3<|aJ vV jv)<|fK<|aC 2<|bf (Zb 2) om bh
abbrev md:=eC<|.str BM
abbrev de:=e2 aN (e2 Zn (e2 Zn ma px) pz) md
abbrev fq:=oK<|Za (Zb 2)<|Za (e2 Zv mM px) Ze
abbrev dS:=Gp (Zb 3)<|aJ uy fq
abbrev oQ:=eC<|.str [32]
abbrev fN:=Za (Zb 4)<|Za (aU fQ xq (Zb 5)<|Za oQ Ze) Ze
abbrev iN:=e2 dW ny pz
abbrev pj:=eC<|.str []
def CJ:S3:=Zt (fK<|aC 1<|aU fQ xq (Zb 0)<|Za (eC<|.str [10]) Ze)<|Zt (fK<|aC 2<|zy (W8<|Zb 1) 2 (oH [4,5]) [e2 iJ (Zb 5) pj]<|ji fN)<|Zt (fK<|aC 3<|ji Ze)<|Zt (aG (pR<|cN iN de) cS<|fK aW)<|aM dS
def vW:F3:=cR 1 4 CJ
abbrev pS:=eC<|.int 3
def Gu:S3:=Zt (aC 1<|e2 Zn (Zb 0) pz)<|Zt (aC 2<|e2 Zn (Zb 0) px)<|Zt (vA (Zb 0) px<|e2 Zv (Zb 2) px)<|Zt (aG (e2 eE (Zb 2) mM) (aM<|e2 Zn (Zb 1)<|Zb 2) aW)<|Zt (aG (e2 aN mM pz) (aM<|e2 Zv (e2 gQ (e2 gQ (Zb 2)<|Zb 2) pS)<|Zb 2) aW)<|aM<|e2 Zv (e2 Zw (e2 Zn (Zb 1)<|e2 Zx (Zb 2) mM) pE)<|e2 gQ (Zb 2)<|Zb 2
def gn:F3:=cR 1 3 Gu
abbrev pk:=eC<|.int 26
abbrev pV:=eC<|.int 8
abbrev dy:=e2 gQ (e2 Zn (Zb 2)<|e2 Zx (e2 Zv (Zb 4) px) pk)<|e2 Zw (Zb 8) pV
abbrev fS:=e2 gQ (Zb 5)<|e2 Zv px<|e2 Zx (Zb 8) pV
abbrev br:=Zt (aC 10<|e2 Zv fS dy)<|aC 10<|bf (Zb 10) bh<|aX pV
abbrev qa:=eC<|.int 7
abbrev cw:=e2 gQ (e2 Zn (Zb 2)<|e2 Zx (e2 Zw (Zb 4) qa) pk)<|e2 Zx (e2 Zw (Zb 4)<|eC<|.int 676) qa
abbrev eA:=e2 gQ (Zb 9)<|e2 Zv px<|e2 Zx (e2 Zw (Zb 4) pk) pV
abbrev pv:=eC<|.int 12
abbrev gp:=e2 Zn (Zb 1)<|e2 Zx (e2 Zv (Zb 8)<|Zb 4) pv
abbrev pT:=eC<|.int 4
abbrev mf:=e2 Zx (Zb 3) pT
abbrev ib:=e2 aN mf pE
abbrev oq:=Za (Zb 10) Ze
abbrev ag:=Zt (aC 10 eA)<|Zt (aG (e2 aN mf px) (aC 10<|e2 Zv gp<|Zb 6) aW)<|Zt (aG ib br aW)<|Zt (aG (e2 aN mf pS) (aC 10<|e2 Zv (e2 Zv (Zb 6)<|Zb 9) cw) aW)<|Zt (aG (e2 BW (Zb 10)<|Zb 1) (aC 10<|e2 Zv (Zb 10)<|eC<|.str [120]) aW)<|bC<|aU bK cD (Zb 7) oq
abbrev kz:=Za (eC<|.str AJ) Ze
abbrev lj:=eC<|.str AW
abbrev ly:=eC<|.str BG
abbrev mI:=eC<|.str BF
abbrev nB:=eC<|.str tT
abbrev az:=Zz<|Za md<|Za mB<|Za mI<|Za ly<|Za lx<|Za lr<|Za lj<|Za mE<|Za nB<|Za (eC<|.str va)<|Za (eC<|.str vb) kz
abbrev gi:=e2 Zn (Zb 2)<|e2 Zx (e2 Zv (Zb 4)<|Zb 8) pk
abbrev fR:=aC 9 gi
abbrev nE:=aJ gn oC
def Z2:S3:=Zt (aC 1 az)<|Zt (aC 2<|eC<|.str Cs)<|Zt (aC 3 nE)<|Zt (aC 4<|e2 Zw (Zb 3) pT)<|Zt (aC 5<|e2 Zn (Zb 2)<|e2 Zx (Zb 4) pk)<|Zt (aC 6<|e2 Zn (Zb 2)<|e2 Zx (e2 Zw (Zb 4) pk) pk)<|Zt (aC 7<|Zz Ze)<|Zt (vB (ud pv) (cV 8)<|Zt fR ag)<|aM<|Zb 7
def QZ:F3:=cR 1 11 Z2
abbrev mh:=e2 Zw (Zb 0) pT
abbrev hZ:=e2 Zx mh pv
abbrev bE:=Za hZ<|Za (e2 iu nX hZ)<|Za (Zb 1)<|Za (e2 iu nX<|Zb 1) Ze
abbrev pw:=eC<|.int 10
def Z3:S3:=Zt (aC 1<|e2 Zx mh<|e2 Qa pw<|eC<|.int 59)<|aM<|e2 Zn (Zz bE)<|e2 Zx (Zb 0) pT
def zT:F3:=cR 1 2 Z3
abbrev dq:=Zz<|Za nB<|Za (eC<|.str va)<|Za (eC<|.str vb) Ze
abbrev oS:=Za (Zb 6) Ze
abbrev eP:=aU bK rN (Zb 5)<|Za (Zz<|Za (e2 iu (Zb 6) px) oS) Ze
abbrev qf:=eC<|.int 9
abbrev ia:=e2 Zx (e2 Zw (Zb 7) qf) pv
abbrev kA:=Za (e2 Zw (Zb 7) qf) Ze
abbrev mi:=e2 eE (Zb 9) pS
abbrev ml:=e2 dW (Zb 6) px
abbrev mm:=e2 dW (Zb 8) px
abbrev mn:=e2 aN (Zb 9) pS
abbrev mr:=e2 dW (Zb 8) pz
abbrev ai:=aG (cN mi<|cN ml mm) (Zt (bC<|aU bK cD (Zb 4)<|Za (e2 Zn dq<|Zb 9) Ze)<|bC eP)<|aG (cN mn mr) (Zt (bC<|aU bK cD (Zb 4) kz)<|bC<|aU bK cD (Zb 5) oS)<|aG (e2 eE (Zb 9) qa) (bC<|aU bK cD (Zb 4)<|Za (e2 Zn (Zb 1) ia) Ze)<|bC<|aU bK cD (Zb 4)<|Za (aJ zT kA) Ze
abbrev nI:=aD aV oB
abbrev fw:=e2 iu (e2 iu (Zb 3) nI)<|aD aV<|Za (Zb 5) Ze
abbrev af:=Zt (aC 7 nE)<|Zt (aC 8<|e2 iu fw px)<|Zt (aC 9<|e2 Zx (Zb 7) qf) ai
abbrev nV:=aU bK rJ (Zb 5) Ze
def Z4:S3:=Zt (aC 4<|Zz Ze)<|Zt (aC 5<|Zz oP)<|Zt (WX (e2 iJ (Zb 5)<|Zz Ze)<|Zt (aC 6 nV) af)<|aM mP
def uz:F3:=cR 4 10 Z4
abbrev mv:=e2 Zx (Zb 2) pS
abbrev qo:=eC<|.int 5
abbrev ba:=Zt (aG (e2 aN mv px) (aM<|ji<|Za mI<|Za (Zb 4)<|Za (aJ uz<|Za (Zb 0)<|Za (Zb 1)<|Za (e2 Zv px<|e2 Zx (e2 Zw (Zb 2) qa) qo) oz) Ze) aW)<|aM<|ji<|Za ly oB
abbrev cy:=ji<|Za mB<|Za (e2 Zn (Zb 1)<|e2 Zx (e2 Zw (Zb 2)<|eC<|.int 440) pv) oB
abbrev bP:=aG (e2 aN mv pz) (aM cy) aW
abbrev ck:=e2 Zn (Zz<|Za pS<|Za pS<|Za qa<|Za (eC<|.int 20) Ze)<|e2 Zx (e2 Zw (Zb 2) pw) pT
abbrev qk:=eC<|.int 6
abbrev cx:=aJ uz<|Za (Zb 0)<|Za (Zb 1)<|Za (e2 Zv px<|e2 Zx (e2 Zw (Zb 2) pS) qk) oz
abbrev fm:=e2 aN (e2 Zx (e2 Zw (Zb 2)<|eC<|.int 40)<|eC<|.int 11) px
def Z5:S3:=Zt (aC 3 ck)<|Zt (aG fm (aC 3<|eC<|.int 29) aW)<|Zt (aC 4 cx)<|Zt bP ba
def Q0:F3:=cR 3 5 Z5
abbrev eI:=bC<|aU bK rN (Zb 1)<|Za (gU (eG<|Zb 2) 1 (cV 3) []<|aD BR oz) Ze
abbrev km:=bC<|aU bK cD (Zb 1) oP
def Z6:S3:=Zt (aC 1<|Zz ky)<|Zt (vB (eG kS) (cV 2)<|aG (e1 (w5 .str)<|Zb 2) km eI)<|aM<|aU fQ nu oQ oy
def CK:F3:=cR 1 3 Z6
def Z7:S3:=Zt (xr (e2 Zn (Zb 0) nX) [2,3,4,5])<|Zt (aC 6<|ji<|Za (Zb 2)<|Za (Zb 3)<|Za mT Ze)<|Zt (aG (e2 aN (Zb 2) lx) (aC 6<|ji<|Za (Zb 2)<|Za (Zb 3)<|Za (Zb 5)<|Za mT Ze) aW)<|aM<|e2 Zv (Zb 4)<|Zz oS
def zU:F3:=cR 2 7 Z7
abbrev kQ:=e2 Zn (Zb 2) nX
abbrev gv:=e2 Zn kQ pz
abbrev dE:=e2 aN gv lj
abbrev dP:=e2 aN gv lx
abbrev gy:=e2 Zn kQ pS
abbrev fg:=e2 pJ gy<|eC .Z
abbrev fh:=e2 Jk gy<|eC .Z
abbrev gr:=Zz<|Za lr oj
abbrev iq:=e2 eE ny pv
abbrev iS:=rZ pI eE qo (Zb 5) pV
abbrev jI:=Za lj Ze
abbrev nK:=e2 ur (Zb 2)<|Zz Ze
def CN:S3:=Zt (aC 4 nE)<|Zt (aC 5<|e2 Zx (Zb 4) pw)<|Zt (aG (cN (e2 aN (Zb 5) pV)<|cN nK<|cN dP fg) (Zt (vA kQ pS<|aD iy oz)<|aM gr) aW)<|Zt (aG (cN (e2 dW (Zb 5) qa)<|cN nK<|dh dE fh) (Zt (aC 3<|aJ zU<|Za (Zb 2) oz)<|Zt (bC<|aU bK rJ (Zb 2) Ze)<|aM<|Zz<|Za mE oz) aW)<|Zt (aG (cN iS iq) (Zt (aC 6<|aJ uz<|Za (Zb 0)<|Za (Zb 1)<|Za (e2 Zv px<|e2 Zx (e2 Zw (Zb 4)<|eC<|.int 30) qk)<|Za (e2 Zv px<|e2 Zx (e2 Zw (Zb 4) pw) qf) Ze)<|Zt (aC 7<|e2 Zn (Zz<|Za lx<|Za lx jI)<|e2 iu (Zb 5) qo)<|Zt (bC<|aU bK cD (Zb 2)<|Za (Zz<|Za (Zb 7)<|Za (Zb 6)<|Za (Zb 3)<|Za (eC .Z) Ze) Ze)<|aM<|Zz<|Za (aJ CK<|Za (ji<|Za (Zb 7) oS) Ze) oj) aW)<|Zt (aC 8<|aJ Q0<|Za (Zb 0)<|Za (Zb 1)<|Za (e2 Zw (Zb 4) pw) Ze)<|aM<|Zz<|Za (aJ CK<|Za (Zb 8) Ze)<|Za (e2 Zv (Zb 3)<|Zz<|Za (Zb 8) Ze) Ze
def CP:F3:=cR 4 9 CN
abbrev kR:=e2 Zn (Zb 5) nX
abbrev dQ:=e2 aN (e2 Zn kR pz) lx
abbrev fi:=e2 pJ (e2 Zn kR pS)<|eC .Z
abbrev kn:=Za lr Ze
abbrev nL:=aD iy oS
abbrev aS:=aG (cN dQ fi) (Zt (vA kR pS nL)<|Zt (aC 6<|Zz Ze)<|bC<|aU bK cD (Zb 4) kn) aW
abbrev gX:=Za (Zb 0)<|Za (Zb 1)<|Za (Zb 5) oS
abbrev ki:=e2 Zv (Zb 7)<|aD aV oq
abbrev bb:=Zt (xr (aJ CP gX) [10,11])<|Zt (aG (e2 dW ki<|Zb 3) (Zt (aC 5<|Zb 9) WW) aW)<|Zt (aC 6<|Zb 11)<|Zt (aC 7<|e2 Zv ki px)<|bC<|aU bK cD (Zb 4) oq
abbrev eo:=Zt (bC nV)<|bC<|aU bK cD (Zb 4)<|Za mE Ze
abbrev jS:=aC 6<|aJ zU<|Za (Zb 5) oS
abbrev cm:=Zt jS eo
abbrev ot:=Za (Zb 12) Ze
abbrev gf:=aC 9<|gU (eG<|Zb 5) 1 (cV 12) []<|aD wZ ot
def Z8:S3:=Zt (aC 4<|Zz Ze)<|Zt (aC 5<|Zz Ze)<|Zt (aC 6<|Zz Ze)<|Zt (aC 7 pz)<|Zt (vB (ud<|Zb 2) (cV 8)<|Zt gf bb)<|Zt (WX (e2 ur (Zb 5)<|Zz Ze)<|Zt aS cm)<|aM<|Zz<|Za (Zb 4)<|Za nL Ze
def Q3:F3:=cR 4 12 Z8
abbrev bq:=Za pj<|Za (e2 gQ (eC<|.str [49])<|eC<|.int 61)<|Za (e2 Zv (eC<|.str [45])<|e2 gQ (eC<|.str [57])<|eC<|.int 61)<|Za (eC<|.str [67,101,108,108])<|Za (eC<|.str [97,100,100,115])<|Za (eC<|.str [48,120,49]) Ze
abbrev bp:=Zz bq
abbrev ko:=Za lx Ze
abbrev kH:=Za md Ze
def Z9:S3:=Zt (aC 1<|Zz<|Za (eC<|.str [48,49])<|Za (eC<|.str [45,48])<|Za (eC<|.str [43,49])<|Za (eC<|.str [49,95,48])<|Za (eC<|.str [45,45,49])<|Za (eC<|.str [45])<|Za (eC<|.str [49,46,48])<|Za (eC<|.str [49,101,51])<|Za (eC<|.str [97,66])<|Za (eC<|.str [97,49])<|Za (eC<|.str [95,97])<|Za (eC<|.str [97,45,98])<|Za (eC<|.str [65])<|Za (eC<|.str [97,98,99,100,101,102,103,104,105]) Ze)<|Zt (aC 1<|e2 Zv (e2 Zv (Zb 1)<|bf bp bh<|aX pT)<|Zz<|Za (eC<|.str [48,120,49])<|Za mB<|Za mI<|Za ly ko)<|Zt (aC 1<|e2 Zv (Zb 1)<|Zz<|Za lr<|Za lj<|Za mE kH)<|aM<|e2 Zn (Zb 1)<|e2 Zx (Zb 0) mM
def zV:F3:=cR 1 2 Z9
abbrev kL:=Za lP Ze
abbrev bu:=e2 Zv (Zb 4)<|Zz<|Za (e2 Zn (Zz<|Za (eC<|.str [55])<|Za (eC<|.str AJ)<|Za pj kL)<|e2 Zx (e2 Zw (Zb 2)<|eC<|.int 20) pT) Ze
abbrev mw:=bf (Zb 4) bh<|aX<|Zb 6
abbrev ax:=Zt (aG (e2 aN (Zb 7) px) (aM bu) aW)<|aM<|e2 Zv (e2 Zv mw<|Zz<|Za (aJ zV<|Za (e2 Zw (Zb 2)<|eC<|.int 20) Ze) Ze)<|bf (Zb 4) (aX<|e2 Zv (Zb 6) px) bh
abbrev ka:=bf (Zb 4) bh<|aX nX
abbrev eD:=aG (e2 aN (Zb 7) pz) (aM ka) aW
abbrev kq:=Za ly Ze
abbrev ku:=e2 iu nI<|Zb 5
def Z_:S3:=Zt (aC 2 nE)<|Zt (aC 3<|e2 Zn (Zz<|Za (ji kq)<|Za (ji jI)<|Za (ji<|Za mB<|Za (e2 Zn (Zb 1)<|e2 Zx (e2 Zw (Zb 2) pS) pv) Ze) Ze) mv)<|Zt (aC 4<|aU fQ xq (aJ CK<|Za (e2 Zv (Zb 3)<|ji<|Za (aJ uz<|Za (Zb 0)<|Za (Zb 1)<|Za qk<|Za qf Ze) Ze) Ze)<|Za oQ Ze)<|Zt (aC 5<|aD aV oz)<|Zt (aC 6<|e2 Zv (Zb 5)<|e2 Zx (e2 Zw (Zb 2)<|eC<|.int 36) ku)<|Zt (aC 7<|e2 Zx (e2 Zw (Zb 2) qo) pT)<|Zt eD ax
def Q4:F3:=cR 2 8 Z_
abbrev mx:=e2 Zw (Zb 3) pV
abbrev pb:=eC<|.str [53]
abbrev my:=Za pb Ze
abbrev nN:=Za pj Ze
abbrev av:=aM<|e2 Zn (Zz<|Za (Zz<|Za pj<|Za ly my)<|Za (Zz<|Za ly<|Za pb nN)<|Za (Zz<|Za ly<|Za pj my)<|Za (Zz<|Za pj nN)<|Za (Zz<|Za (eC<|.str [32,116,101,108,108]) my) Ze)<|e2 Zx mx qo
abbrev aw:=aM<|e2 Zn (Zz<|Za (Zz kq)<|Za (Zz<|Za mB Ze)<|Za (Zz<|Za mB kL)<|Za (Zz<|Za mI Ze)<|Za (Zz<|Za mI my)<|Za (Zz ko)<|Za (Zz jI) Ze)<|e2 Zx mx qa
abbrev ie:=e2 Zx mx qk
abbrev kd:=Zz kH
abbrev lh:=bf (Zb 5) bh<|aX pE
abbrev pd:=Za (Zb 7) Ze
abbrev og:=Zz pd
abbrev aE:=aM<|e2 Zv kd<|e2 Zn (Zz<|Za (Zz Ze)<|Za (Zb 5)<|Za (e2 Zv lh<|bf (Zb 5) bh om)<|Za og<|Za (e2 Zv lh og)<|Za (e2 Zv og lh) Ze) ie
abbrev ij:=e2 Zx mx pE
abbrev lL:=e2 Zw (Zb 3)<|eC<|.int 16
abbrev bc:=aM<|Zz<|Za (e2 Zn (Zz<|Za lr<|Za mE Ze) ij)<|Za (e2 Zn (Zz<|Za pj<|Za (eC<|.str [49]) kn)<|e2 Zx lL pS) Ze
abbrev bg:=aM<|Zz<|Za mI<|Za pb<|Za lP<|Za (e2 Zn (Zz<|Za pb<|Za (e2 Zn (Zb 1) px)<|Za mI Ze)<|e2 Zx mx pS) Ze
abbrev fe:=aX<|e2 Zv px ie
abbrev cf:=aM<|e2 Zv kd<|bf (Zb 5) bh fe
abbrev ae:=Zt (aG (e2 aN (Zb 4) pE) bc aW)<|Zt (aG (e2 aN (Zb 4) pS) aE aW)<|Zt (aG (e2 aN (Zb 4) pT) aw aW)<|Zt (aG (e2 aN (Zb 4) qo) av aW)<|Zt (aG (dh (e2 aN (Zb 4) qk)<|Zb 2) bg aW) cf
abbrev eT:=aM<|Zz<|Za mB<|Za (Zb 7) my
abbrev cE:=aG (e2 aN (Zb 4) px) eT aW
abbrev aa:=Zt (aC 7<|e2 Zn (Zz<|Za (e2 Zn (Zb 6)<|e2 Zx lL pv)<|Za (aJ zV<|Za lL Ze) Ze) ij)<|Zt cE ae
abbrev ay:=aC 6 az
abbrev aT:=aM<|Zz<|Za (e2 Zn (Zz<|Za (eC<|.str [83,101,116])<|Za (eC<|.str Ct)<|Za (eC<|.str CB)<|Za nB<|Za (eC<|.str [55]) kL) ie)<|Za (e2 Zn (Zb 1) px) my
abbrev aI:=aG (e2 aN (Zb 4) pz) aT aW
abbrev eR:=e2 Zn (Zb 1)<|e2 Zx (e2 Zv mx<|Zb 8) pv
def J5:S3:=Zt (aC 3 nE)<|Zt (aC 4<|e2 Zx (Zb 3) pV)<|Zt (aC 5<|gU (ud qa) 1 (cV 8) [] eR)<|Zt aI<|Zt ay aa
def J6:F3:=cR 3 8 J5
abbrev iO:=e2 Zx nE pE
def J7:S3:=Zt (aG (e2 aN iO pz) (aM<|aU fQ nu oQ<|Za (aJ Q4<|Za (Zb 0) oy) Ze) aW)<|aM<|aU fQ nu oQ<|Za (aJ J6<|Za (Zb 0)<|Za (Zb 1) oP) Ze
def zW:F3:=cR 3 3 J7
abbrev gT:=e1 (vU sC xI)<|Zb 2
abbrev hG:=e1 pH<|e1 (oM [sC] [])<|Zb 2
def EN:S3:=Zt (aC 2<|eC .Z)<|Zt (Jy [sC] 3 (bC<|aJ vW<|oK oC)<|aC 2<|Zb 3)<|Zt (aG (e1 (oM [] [sC])<|Zb 2) (aM<|eC<|.bl false) aW)<|Zt (aG (dh hG hG) (aM<|eC<|.bl false) aW)<|aM<|cN (e1 (w5 .int) gT)<|cN (e1 pH<|e1 (w5 .bool) gT)<|e2 aN gT<|Zb 1
def Q5:F3:=cR 2 4 EN
abbrev iP:=e2 Zv nI px
abbrev bS:=Za (e2 Zx (e2 Zw (Zb 2)<|eC<|.int 24) iP)<|Za (aD zx<|Za px<|Za nI Ze) Ze
abbrev bo:=e2 Zn (Zz bS)<|e2 Zw (e2 Zx (e2 Zw (Zb 2) pv) pT) pS
abbrev hX:=Za (aU fQ nu pj pd) Ze
abbrev eJ:=e2 eE (aD aV hX)<|eC<|.int 3700
abbrev nS:=aJ gn oy
abbrev fE:=e2 aN (e2 Zx nS qk) px
abbrev ix:=bC<|aU bK cD (Zb 7) nN
abbrev bt:=aG (cN fE eJ) ix aW
abbrev il:=e2 Zx (e2 Zw (Zb 2) pT) qk
abbrev ff:=aX<|e2 Zv px il
abbrev bz:=aC 4<|e2 Zv (Zz<|Za (e2 Zv (eC<|.str [116,97,107,101,32])<|aU fQ nu oQ<|Za (bf (Zb 3) bh ff) Ze) Ze)<|Zb 4
abbrev cz:=Zt (bC<|aU bK cD (Zb 7)<|Za (e2 Zn (Zb 4)<|Zb 9) Ze)<|aG (e2 aN (Zb 9)<|Zb 5) (aC 8<|aD aV pd) aW
abbrev df:=e2 Zv (e2 Zv (Zb 5) px)<|e2 Zx nS ku
abbrev cK:=aC 6 df
abbrev ik:=e2 Zx (e2 Zw (Zb 2) pE) pE
abbrev fz:=e2 aN ik px
abbrev ip:=e2 aN (e2 Zx (Zb 2) pE) px
def EO:S3:=Zt (aC 1<|Zz<|Za (bf (Zb 0) bh<|aX<|eC<|.int 120)<|Za pz Ze)<|Zt (aC 2 nS)<|Zt (aC 3<|aJ QZ oy)<|Zt (aC 4<|e2 Zn (aJ Q3<|Za (Zb 1)<|Za (Zb 3)<|Za (aD zx<|Za (eC<|.int 60)<|Za mS Ze)<|Za (eC<|.int 2400) Ze) pz)<|Zt (aG fz bz aW)<|Zt (aC 5 bo)<|Zt (aC 4<|e2 Zv (e2 Zv (bf (Zb 4) bh<|aX<|Zb 5)<|Zz<|Za (aJ zW<|Za (Zb 1)<|Za (Zb 3)<|Za (e2 aN (Zb 5) pz) Ze) Ze)<|bf (Zb 4) (aX<|Zb 5) bh)<|Zt (aG ip (Zt cK<|aC 4<|e2 Zv (e2 Zv mw<|Zz<|Za (aJ zW<|Za (Zb 1)<|Za (Zb 3)<|Za (eC<|.bl false) Ze) Ze)<|bf (Zb 4) (aX<|Zb 6) bh) aW)<|Zt (aC 7<|Zz Ze)<|Zt (aC 8 pz)<|Zt (vB (ud nI) (cV 9)<|Zt bt cz)<|aM<|aJ Q5<|Za (aU fQ nu (eC<|.str [10]) pd)<|Za (Zb 8) Ze
def ZpJ:F3:=cR 1 10 EO
end
end Law
namespace Law
open PySem PySem.Spec PyProof.Rows L2 L3
def gB{N P:List aj}{sc:Scope}(a:sc.kind= .function:=by rfl)(b:sc.isCoroutine=false:=by rfl)(c:sc.isGenerator=false:=by rfl)(d:N.Nodup:=by decide +kernel)(e:N.take (B P)=P:=by rfl)(f:∀x∈P,sc.names.lookup x=O .local\/sc.names.lookup x=O .cell:=by decide +kernel)(g:∀y∈sc.names,y.2≠ .free:=by decide +kernel):dN N P sc:=⟨a,b,c,d,e,f,g⟩
def top(i:Nat):Ydv:=PySem.Challenge.pw_stepledger_k63_bad_rows.main.body.getD i<|.Pass ⟨0,0,0,0⟩
abbrev J8:Ydv:=top 13
abbrev J9:Ydv:=top 16
abbrev J_:Ydv:=top 17
abbrev Ka:Ydv:=top 18
abbrev Kc:Ydv:=top 19
abbrev Kd:Ydv:=top 31
abbrev Ke:Ydv:=top 32
abbrev Kf:Ydv:=top 33
abbrev Kg:Ydv:=top 34
abbrev Kh:Ydv:=top 35
abbrev Kl:Ydv:=top 36
abbrev Km:Ydv:=top 37
abbrev Ko:Ydv:=top 38
abbrev Kq:Ydv:=top 40
abbrev Kr:Ydv:=top 41
abbrev Ks:Ydv:=top 42
abbrev Ku:Ydv:=top 43
abbrev Kv:Ydv:=top 44
abbrev Kw:Ydv:=top 45
abbrev Ky:Ydv:=top 46
abbrev Kz:Ydv:=top 47
abbrev KC:Ydv:=top 48
abbrev KD:Ydv:=top 50
abbrev KH:Ydv:=top 51
abbrev KJ:Ydv:=top 52
abbrev KN:Ydv:=top 53
abbrev KQ:Ydv:=top 54
abbrev xT:Ydv:=top 55
abbrev CQ:Ydv:=(YE<|top 30).getD 0<|.Pass ⟨0,0,0,0⟩
structure KR(K:wF)(mg:aj->Option Yh)(C:Yy):Prop where
  ok:Cj K sv C
  mg:mg "Block" =O (.ref C)
  Mj:vh K C (nm xS)
  Ah:vh K C (nm vx)
abbrev vX:Ydv:=(YE<|top 8).getD 0<|.Pass ⟨0,0,0,0⟩
structure KY(K:wF)(mg:aj->Option Yh)(fD jF jE bZ jD jG jH jJ jK jX:Yy):Prop where
  gh:mg "LedgerError" =O (.ref fD)
  AcP:mg "BadCut" =O (.ref jF)
  Acj:mg "BadGiven" =O (.ref jE)
  G8:mg "BadRow" =O (.ref bZ)
  Ab7:mg "NoDispute" =O (.ref jD)
  AcQ:mg "NoRoll" =O (.ref jG)
  AcR:mg "NoTime" =O (.ref jH)
  Ads:mg "Spent" =O (.ref jJ)
  Adt:mg "Unfit" =O (.ref jK)
  Ag:ZL K sC bZ fD jX "row" "BadRow.__init__" vX zd
  Sv:ZJ K sC bZ (nm xI)
  Ab4:∀c C,([sC]:d6).contains c=true->ClsAt K c C->Tz K (.ref C) (.ref fD)=O true
  Adu:zO K [sC] [] [.ref bZ]
  Ab8:zO K [sC] [] [.type "ValueError"]
  Abd:zO K [] [sC] (refsOf [jF,jE,jD,jG,jH,jJ,jK])
def Zhp:dN zd zd (bJ vX):=gB
def Q6{P:Y9}{w:aQ}{K:wF}{mg:aj->Option Yh}{base:aH}{fD jF jE bZ jD jG jH jJ jK jX:Yy}(XO:KY K mg fD jF jE bZ jD jG jH jJ jK jX):fy P w K mg base bZ jX "row" zd:=by let⟨fd,F,b⟩:=XO.Ag.fn;exact⟨fd,b,fnI (k:=0) F Zhp J λj0 A outer s H E hr=>⟨_,Wa (Wc<|Zt6 XO.Ag.own XO.gh<|qG (Ja (i:=0) J<|Or.inl J)<|qG (Zua<|Ja (i:=1) J<|Or.inl J) zc)<|Wb<|Zu6 XO.Ag.own (Ja (i:=0) J<|Or.inl J)<|Ja (i:=1) J<|Or.inl J,λD e i hi he hq=>Zy2 J hi he hq⟩⟩
structure Txt(K:wF)(mg:aj->Option Yh):Prop where
  Bj:True
  Ab9:mg "ValueError" =Yj
  Hg:mg "all" =Yj
  AdP:mg "bool" =Yj
  R5:mg "enumerate" =Yj
  sk:mg "int" =Yj
  DP:mg "isinstance" =Yj
  fH:mg "len" =Yj
  AdQ:mg "list" =Yj
  r₂:mg "max" =Yj
  ei:mg "min" =Yj
  Mh:mg "range" =Yj
  AdX:mg "set" =Yj
  dv:mg "str" =Yj
  qX:mg "tuple" =Yj
  v_:∃t,mg "FIGURES" =O (.str "0123456789" t)
  Af:∃t,mg "LETTERS" =O (.str "abcdefghijklmnopqrstuvwxyz" t)
  oa:∃a,mg "LISTS" =O (.ref a)/\oW K a qT
  Ad:∃t,mg "MOST_BLOCKS" =O (.int 12 t)
  uM:∃t,mg "MOST_DEPTH" =O (.int 6 t)
  qm:∃t,mg "MOST_FIGURES" =O (.int 60 t)
  uK:∃t,mg "MOST_LETTERS" =O (.int 8 t)
  v9:∃t,mg "MOST_TAKEN" =O (.int 6 t)
  uN:∃t,mg "MOST_WORDS" =O (.int 60 t)
  cC:∃a,mg "PARTS" =O (.ref a)/\oW K a qU
  nh:∃a,mg "SUMS" =O (.ref a)/\oW K a fj
  AdD:∃a,mg "WORDS" =O (.ref a)/\Gi K (dG.map λy=>(⟨kb y⟩:aj)) (.ref a)=true
variable{X:Cx}{pos:a_}
def Zoz(T:Txt X.K X.mg)(hg:Gl X "FIGURES":=by rfl):C3 X (.Name "FIGURES" pos) v_:=by let⟨t,e⟩:=T.v_;refine xx (v:=.str ⟨(EJ:b9).toArray⟩) e ⟨t,?_⟩ (λ_ _=>Rep.str) hg;exact congrArg (λz=>Value.str z t) aaE
def Zn3(T:Txt X.K X.mg)(hg:Gl X "LETTERS":=by rfl):C3 X (.Name "LETTERS" pos) Af:=by let⟨t,e⟩:=T.Af;refine xx (v:=.str ⟨(Cs:b9).toArray⟩) e ⟨t,?_⟩ (λ_ _=>Rep.str) hg;exact congrArg (λz=>Value.str z t) aaE
variable{e:Expr}{g:E3}{qr:a_}
def ZoR{e':Expr}{apos f_:a_}{g':E3}(T:Txt X.K X.mg)(he:C3 X e g)(we:C3 X e' g')(m:M2 X (.Name "LISTS" qr) "get" apos e e' f_:=by exact⟨rfl,rfl,rfl,rfl⟩)(hg:Gl X "LISTS":=by rfl):C3 X (.Call (.Attribute (.Name "LISTS" qr) "get" apos) [e,e'] [] f_) (e2 (xu qT) g g'):=by let⟨a,hm,ht⟩:=T.oa;exact lN hm ht he we m hg
def t2(T:Txt X.K X.mg)(he:C3 X e g)(hg:Gl X "LISTS":=by rfl):CT X (.Compare e [.In] [.Name "LISTS" qr] pos) (e1 (xN qT) g):=by let⟨a,hm,ht⟩:=T.oa;exact ZtG hm ht he hg
def Zkc(T:Txt X.K X.mg)(hg:Gl X "MOST_BLOCKS":=by rfl):C3 X (.Name "MOST_BLOCKS" pos) Ad:=by let⟨t,e⟩:=T.Ad;exact xx (v:=.int 12) e ⟨t,rfl⟩ (λ_ _=>Rep.int) hg
def ZkP(T:Txt X.K X.mg)(hg:Gl X "MOST_DEPTH":=by rfl):C3 X (.Name "MOST_DEPTH" pos) uM:=by let⟨t,e⟩:=T.uM;exact xx (v:=.int 6) e ⟨t,rfl⟩ (λ_ _=>Rep.int) hg
def Zi4(T:Txt X.K X.mg)(hg:Gl X "MOST_FIGURES":=by rfl):C3 X (.Name "MOST_FIGURES" pos) qm:=by let⟨t,e⟩:=T.qm;exact xx (v:=.int 60) e ⟨t,rfl⟩ (λ_ _=>Rep.int) hg
def Zi8(T:Txt X.K X.mg)(hg:Gl X "MOST_LETTERS":=by rfl):C3 X (.Name "MOST_LETTERS" pos) uK:=by let⟨t,e⟩:=T.uK;exact xx (v:=.int 8) e ⟨t,rfl⟩ (λ_ _=>Rep.int) hg
def ZkX(T:Txt X.K X.mg)(hg:Gl X "MOST_TAKEN":=by rfl):C3 X (.Name "MOST_TAKEN" pos) v9:=by let⟨t,e⟩:=T.v9;exact xx (v:=.int 6) e ⟨t,rfl⟩ (λ_ _=>Rep.int) hg
def Zk2(T:Txt X.K X.mg)(hg:Gl X "MOST_WORDS":=by rfl):C3 X (.Name "MOST_WORDS" pos) uN:=by let⟨t,e⟩:=T.uN;exact xx (v:=.int 60) e ⟨t,rfl⟩ (λ_ _=>Rep.int) hg
def Zon{e':Expr}{apos f_:a_}{g':E3}(T:Txt X.K X.mg)(he:C3 X e g)(we:C3 X e' g')(m:M2 X (.Name "PARTS" qr) "get" apos e e' f_:=by exact⟨rfl,rfl,rfl,rfl⟩)(hg:Gl X "PARTS":=by rfl):C3 X (.Call (.Attribute (.Name "PARTS" qr) "get" apos) [e,e'] [] f_) (e2 (xu qU) g g'):=by let⟨a,hm,ht⟩:=T.cC;exact lN hm ht he we m hg
def Zov(T:Txt X.K X.mg)(he:C3 X e g)(hg:Gl X "PARTS":=by rfl):C3 X (.Compare e [.In] [.Name "PARTS" qr] pos) (e1 (xN qU) g):=by let⟨a,hm,ht⟩:=T.cC;exact ZvD hm ht he hg
def ZkZ(T:Txt X.K X.mg)(he:C3 X e g)(hg:Gl X "SUMS":=by rfl):CT X (.Compare e [.NotIn] [.Name "SUMS" qr] pos) (e1 (Gm fj) g):=by let⟨a,hm,ht⟩:=T.nh;exact ZmW hm ht he hg
def ZqI(T:Txt X.K X.mg)(he:C3 X e g)(hs:P_ e:=by exactλ_ _=>rfl)(hg:Gl X "SUMS":=by rfl):C3 X (.Subscript (.Name "SUMS" qr) e pos) (e1 (zP fj) g):=by let⟨a,hm,ht⟩:=T.nh;exact ZuQ hm ht he hs hg
def Zro(T:Txt X.K X.mg)(hg:Gl X "WORDS":=by rfl):C3 X (.Name "WORDS" pos) xO:=by let⟨a,hm,ht⟩:=T.AdD;exact Zuq hm ht hg
section
variable (P:Y9) (w:aQ) {K:wF} {mg:aj->Option Yh} (base:aH)
def u1:dN ["word","figures"] tq (bJ J8):=gB
def Zmf(A:gm K mg "is_number" J8 tq)(T:Txt K mg):aY P w K mg base 1 "is_number" tq mD:=aY.of (k:=0) A u1 λf j0 A outer s H E hr=>by have hu:=gG hr;unfold Gq;exact Zh (aZ 1 u1.nd<|JD (rP<|We (Zd 0)<|Zc Zy Zg) (jb jc (Zd 0) (iM Zk) jj)<|Zd 0)<|Zh (cF (CW.ct<|uh (bF xG (dX (id:="len") fU T.fH fL<|Zc (Zd 1) Zg) Zk)<|xF<|bF um (dX (id:="len") fU T.fH fL<|Zc (Zd 1) Zg)<|Zi4 T) (Zu<|bU FQ) cL)<|Zh (cF (rP<|We (Zd 1)<|Zc Zy Zg) (Zu<|bU<|zB (dR hu) (Zd 0) Zy) cL)<|Zu<|bU<|dX (id:="all") (JT J) T.Hg JS<|Zc (xH (N':=["word","figures","figure"]) (pY J aaD) J J (qQ<|Zd 1) λC cl s H ex=>⟨(nC 2<|tm ["word","figures","figure"]),qP,(zB (XM hu) (Zd 2)<|Zoz T)⟩) Zg
def Gv:dN ["words","sums","lacking","word"] so (bJ J9):=gB
def ZoC(A:gm K mg "sums_in" J9 so)(T:Txt K mg):aY P w K mg base 1 "sums_in" so xP:=aY.of (k:=0) A Gv λf j0 A outer s H E hr=>by have hu:=gG hr;unfold QV;exact Zh (aZ 1 Gv.nd<|bj Zg)<|Zh (aZ 2 Gv.nd Zk)<|Zh (JH J J (qQ<|Zd 0) (nC 3 Gv.nd)<|Zh (cF (bF (dR hu) (Zd 2) Zk) (Zh (iQ<|lD (Zd 1)<|Zc (bj Zg) Zg)<|Zu<|aZ 2 Gv.nd Zk) cL)<|Zh (iQ<|lD (bw bx (Zd 1)<|lX lY Zk)<|Zc (Zd 3) Zg)<|Zu<|aZ 2 Gv.nd<|Zr bW (Zr vJ (Zd 2) Zk)<|Zon T (Zd 3) Zk)<|Zu<|bU<|JD (bF (dR hu) (Zd 2) Zk) (xH (N':=w_) (pY J aaD) J J (qQ<|Zd 1) λC cl s H ex=>⟨(nC 4<|tm w_),qP,(oV (T:="tuple") rT T.qX rW<|Zc (Zd 4) Zg)⟩) oU
def Zk8:dN tq tq (bJ J_):=gB
def Zk1(A:gm K mg "needs_sums" J_ tq)(T:Txt K mg):aY P w K mg base 1 "needs_sums" tq xQ:=aY.of (k:=0) A Zk8 λf j0 A outer s H E hr=>by have hu:=gG hr;unfold h₆;exact Zu<|bU<|Zov T<|Zd 0
def ZnH:dN so so (bJ Ka):=gB
def Zno(A:gm K mg "parts_of" Ka so)(T:Txt K mg)(DQ:aY P w K mg base 1 "sums_in" so xP):aY P w K mg base 2 "parts_of" so QW:=aY.of (k:=1) A ZnH λf j0 A outer s H E hr=>by have hu:=gG hr;unfold ZW;exact Zu<|bU<|cT DQ (hr.mono aaA)<|Zc (jb jc (Zd 0) (iM Zk) jj) Zg
def ER:dN ["words","parts"] so (bJ Kc):=gB
def Zr7(A:gm K mg "depth" Kc so)(T:Txt K mg)(R_:aY P w K mg base 2 "parts_of" so QW):aY P w K mg base 64 "depth" so J3:=by
  have all:∀n:Nat,aY P w K mg base (n+3) "depth" so<|Cw n:=by
    intro n
    induction n with
    |zero=>exact aY.of (k:=2) A ER λf j0 A outer s H E hr=>ZuO|succ n ZjQ=>refine(aY.of (k:=n+3) A ER λf j0 A outer s H E hr=>?_).mono b5;have hu:=gG hr;unfold ZX;exact Zh (aZ 1 ER.nd<|cT R_ (hr.mono b5)<|Zc (Zd 0) Zg)<|Zu<|bU<|y5 T.r₂<|Zz9 (N':=EK) (pY J aaD) J J (WU T.R5<|Zd 1) λC cl s H ex=>⟨(Qk J<|pW 2 (tm EK)<|pW 3 (tm EK) FW),qP,(Zr bW (cT ZjQ hr<|Zc (Zd 3) Zg)<|Zd 2)⟩
  exact all 61
def ZoV:dN tq tq (bJ Kf):=gB
def Zn6(A:gm K mg "is_name" Kf tq)(T:Txt K mg):aY P w K mg base 1 "is_name" tq lE:=aY.of (k:=0) A ZoV λf j0 A outer s H E hr=>by have hu:=gG hr;unfold QX;exact Zh (cF (CW.ct<|uh (bF xG (dX (id:="len") fU T.fH fL<|Zc (Zd 0) Zg) Zk)<|uh (bF um (dX (id:="len") fU T.fH fL<|Zc (Zd 0) Zg)<|Zi8 T)<|xF<|bF (XM hu) (Zd 0)<|Zro T) (Zu<|bU FQ) cL)<|Zu<|bU<|dX (id:="all") (JT J) T.Hg JS<|Zc (xH (N':=["word","letter"]) (pY J aaD) J J (qQ<|Zd 0) λC cl s H ex=>⟨(nC 1<|tm ["word","letter"]),qP,(zB (XM hu) (Zd 1)<|Zn3 T)⟩) Zg
def qg:dN ["row","names"] ["row"] (bJ Ke):=gB
def Zlb(A:gm K mg "read_taken" Ke ["row"])(T:Txt K mg){fD jF jE bZ jD jG jH jJ jK jX:Yy}(XO:KY K mg fD jF jE bZ jD jG jH jJ jK jX)(wg:aY P w K mg base 1 "is_name" tq lE):pZ P w K mg base 3 "read_taken" ["row"] vV:=pZ.of (k:=2) A qg λf j0 A outer s H E hr=>by have hu:=gG hr;unfold J4;exact qR (vO<|aZ 1 qg.nd<|jb jc (bw bx (Zd 0) Zk) (iM Zk) jj)<|qR (JW (CW.ct<|uh (bF xG (dX (id:="len") fU T.fH fL<|Zc (Zd 1) Zg) Zk)<|uh (bF um (dX (id:="len") fU T.fH fL<|Zc (Zd 1) Zg)<|ZkX T)<|xF<|bF (Qy hu) (Zrq T.fH T.AdX<|Zd 1)<|dX (id:="len") fU T.fH fL<|Zc (Zd 1) Zg) (vP<|QT (C:=bZ) (fI:=jX) (fn:="row") (CL:=fD) (qual:="BadRow.__init__") (st:=vX) (ps:=zd) XO.Ag (Q6 XO) (hr.mono aaA) XO.G8<|Zc (bw bx (Zd 0) Zk) Zg)<|JV cL)<|qR (JW (FT<|rP<|dX (id:="all") (JT J) T.Hg JS<|Zc (xH (N':=["row","names","name"]) (pY J aaD) J J (qQ<|Zd 1) λC cl s H ex=>⟨(nC 2<|tm ["row","names","name"]),qP,(cT wg (hr.mono aaA)<|Zc (Zd 2) Zg)⟩) Zg) (vP<|QT (C:=bZ) (fI:=jX) (fn:="row") (CL:=fD) (qual:="BadRow.__init__") (st:=vX) (ps:=zd) XO.Ag (Q6 XO) (hr.mono aaA) XO.G8<|Zc (bw bx (Zd 0) Zk) Zg)<|JV cL)<|vP<|vO<|bU<|oV (T:="tuple") rT T.qX rW<|Zc (Zd 1) Zg
def ZhW:dN ya ya (bJ CQ):=gB
def ZhG{dZ:Yy}(eX:KR K mg dZ)(A:QD K dZ "Block.__init__" CQ ya)(T:Txt K mg):Ck P w K mg base 1 dZ ya zQ:=Ck.of (k:=0) A ZhW λf j0 A outer s H E hr=>by have hu:=gG hr;unfold se;exact Zh (YA (C:=dZ) (c:=sv) (m:=xS) eX.ok eX.Mj (Zd 0)<|Zd 1)<|Zu<|YA (C:=dZ) (c:=sv) (m:=vx) eX.ok eX.Ah (Zd 0)<|bj<|Zc (bj Zg) Zg
def ES:dN ["words","sums","depths"] so (bJ Kl):=gB
def Zl7(A:gm K mg "read_sums" Kl so)(T:Txt K mg)(Ma:aY P w K mg base 1 "is_number" tq mD)(DQ:aY P w K mg base 1 "sums_in" so xP)(RX:aY P w K mg base 1 "needs_sums" tq xQ)(Sy:aY P w K mg base 64 "depth" so J3)(wg:aY P w K mg base 1 "is_name" tq lE):aY P w K mg base 65 "read_sums" so ux:=aY.of (k:=64) A ES λf j0 A outer s H E hr=>by have hu:=gG hr;unfold Gr;exact Zh (cF (FT<|rP<|dX (id:="all") (JT J) T.Hg JS<|Zc (xH (N':=CC) (pY J aaD) J J (qQ<|Zd 0) λC cl s H ex=>⟨(nC 3<|tm CC),qP,(UI (cT RX (hr.mono aaA)<|Zc (Zd 3) Zg)<|UI (cT wg (hr.mono aaA)<|Zc (Zd 3) Zg)<|W_<|cT Ma (hr.mono aaA)<|Zc (Zd 3) Zg)⟩) Zg) (Zu<|bU oU) cL)<|Zh (aZ 1 ES.nd<|cT DQ (hr.mono aaA)<|Zc (xH (N':=CC) (pY J aaD) J J (qQ<|Zd 0) λC cl s H ex=>⟨(nC 3<|tm CC),qP,(JD (rP<|cT Ma (hr.mono aaA)<|Zc (Zd 3) Zg) (oV (T:="int") Zxu T.sk ZxD<|Zc (Zd 3) Zg)<|Zd 3)⟩) Zg)<|Zh (cF (bF JL (Zd 1) oU) (Zu<|bU oU) cL)<|Zh (XZ (N':=EL) 2 (pY J aaD) J J ES.nd (WU T.R5<|Zd 1) λC cl s H ex=>⟨(Qk J<|pW 3 (tm EL)<|pW 4 (tm EL) FW),qP,(Zr bW (cT Sy (hr.mono aaA)<|Zc (Zd 4) Zg)<|Zd 3)⟩)<|Zu<|bU<|JD (bF Xg (y5 T.r₂<|Zd 2)<|ZkP T) (Zd 1) oU
def ET:dN ["words","begin","sums"] so (bJ Kh):=gB
def ZlS(A:gm K mg "read_deed" Kh so)(T:Txt K mg)(wg:aY P w K mg base 1 "is_name" tq lE)(R6:aY P w K mg base 65 "read_sums" so ux):aY P w K mg base 66 "read_deed" so Cy:=aY.of (k:=65) A ET λf j0 A outer s H E hr=>by have hu:=gG hr;unfold zR;exact Zh (cF (CW.ct<|uh (ZkZ T<|bw bx (Zd 0) Zk)<|xF<|bF um (dX (id:="len") fU T.fH fL<|Zc (Zd 0) Zg)<|Zk2 T) (Zu<|bU oU) cL)<|Zh (aZ 1 ET.nd<|JD (bF (dR hu) (bw bx (Zd 0) Zk) Zy) Zk Zk)<|Zh (cF (FT<|rP<|dX (id:="all") (JT J) T.Hg JS<|Zc (xH (N':=hJ) (pY J aaD) J J (qQ<|jb jc (Zd 0) (iM Zk)<|iM<|Zd 1) λC cl s H ex=>⟨(nC 3<|tm hJ),qP,(cT wg (hr.mono aaA)<|Zc (Zd 3) Zg)⟩) Zg) (Zu<|bU oU) cL)<|Zh (aZ 2 ET.nd<|cT R6 (hr.mono aaA)<|Zc (jb jc (Zd 0) (iM<|Zd 1) jj) Zg)<|Zh (cF (CW.ct<|uh (bF JL (Zd 2) oU)<|xF<|bF (Qy hu) (dX (id:="len") fU T.fH fL<|Zc (Zd 2) Zg)<|ZqI T<|bw bx (Zd 0) Zk) (Zu<|bU oU) cL)<|Zu<|bU<|oV (T:="tuple") rT T.qX rW<|Zc (Zr bW (jb jc (Zd 0) jj<|iM<|Zd 1)<|Zd 2) Zg
def EU:dN ["blocks","word","inner","full"] CD (bJ Km):=gB
def Zma(A:gm K mg "can_stand" Km CD)(T:Txt K mg){dZ:Yy}(eX:KR K mg dZ):aY P w K mg base 1 "can_stand" CD Gs:=aY.of (k:=0) A EU λf j0 A outer s H E hr=>by have hu:=gG hr;unfold ZZ;exact Zh (aZ 2 EU.nd<|bw bx (Zd 0)<|lX lY Zk)<|Zh (aZ 3 EU.nd<|zB (dR hu) (ZoR T (bw bx (xM (C:=dZ) (c:=sv) (m:=xS) eX.ok eX.Mj<|Zd 2) Zk) Zk)<|dX (id:="len") fU T.fH fL<|Zc (xM (C:=dZ) (c:=sv) (m:=vx) eX.ok eX.Ah<|Zd 2) Zg)<|Zh (cF (t2 T<|Zd 1) (Zu<|bU<|zB Xg (dX (id:="len") fU T.fH fL<|Zc (Zd 0) Zg)<|Zkc T) cL)<|Zh (cF (bF (dR hu) (Zd 1) Zy) (Zu<|bU<|Xd (zB (dR hu) (bw bx (xM (C:=dZ) (c:=sv) (m:=xS) eX.ok eX.Mj<|Zd 2) Zk) Zy)<|W_<|UK<|Zd 3) cL)<|Zh (cF (bF (dR hu) (Zd 1) Zy) (Zu<|bU<|Zd 3) cL)<|Zu<|bU FQ
def EV:dN ["blocks","deed","inner","whole"] CF (bJ Ko):=gB
def Zk7(A:gm K mg "place_deed" Ko CF)(T:Txt K mg){dZ:Yy}(eX:KR K mg dZ)(DG:Ck P w K mg base 1 dZ ya zQ):aY P w K mg base 3 "place_deed" CF xR:=aY.of (k:=2) A EV λf j0 A outer s H E hr=>by have hu:=gG hr;unfold Cz;exact Zh (aZ 2 EV.nd<|bw bx (Zd 0)<|lX lY Zk)<|Zu<|cF (t2 T<|bw bx (Zd 1) Zk) (Zu<|iQ<|lD (Zd 0)<|Zc (YI (C:=dZ) (c:=sv) (k:=1) (ps:=ya) eX.ok DG eX.mg (hr.mono aaA)<|Zc (Zd 1) Zg) Zg)<|Zu<|cF (bF (dR hu) (bw bx (Zd 1) Zk) Zy) (Zu<|iQ<|lD (xM (C:=dZ) (c:=sv) (m:=vx) eX.ok eX.Ah<|Zd 2)<|Zc (bj Zg) Zg)<|Zu<|cF (bF (dR hu) (bw bx (Zd 1) Zk) Zy) (Zh (iQ<|QC<|Zd 0)<|Zh (aZ 3 EV.nd<|Zr bW (xM (C:=dZ) (c:=sv) (m:=xS) eX.ok eX.Mj<|Zd 2)<|oV (T:="tuple") rT T.qX rW<|Zc (xH (N':=cc) (pY J aaD) J J (qQ<|xM (C:=dZ) (c:=sv) (m:=vx) eX.ok eX.Ah<|Zd 2) λC cl s H ex=>⟨(nC 4<|tm cc),qP,(oV (T:="tuple") rT T.qX rW<|Zc (Zd 4) Zg)⟩) Zg)<|Zu<|iQ<|lD (bw bx (xM (C:=dZ) (c:=sv) (m:=vx) eX.ok eX.Ah<|bw bx (Zd 0)<|lX lY Zk)<|lX lY Zk)<|Zc (Zd 3) Zg)<|Zu<|iQ<|lD (bw bx (xM (C:=dZ) (c:=sv) (m:=vx) eX.ok eX.Ah<|Zd 2)<|lX lY Zk)<|Zc (Zd 1) Zg
def KZ:dN ["rows","behind","blocks","number","words","deed"] CH (bJ Kg):=gB
def ZkS(A:gm K mg "read_deeds" Kg CH)(T:Txt K mg){dZ:Yy}(eX:KR K mg dZ){fD jF jE bZ jD jG jH jJ jK jX:Yy}(XO:KY K mg fD jF jE bZ jD jG jH jJ jK jX)(DG:Ck P w K mg base 1 dZ ya zQ)(R7:aY P w K mg base 66 "read_deed" so Cy)(R8:aY P w K mg base 1 "can_stand" CD Gs)(RZ:aY P w K mg base 3 "place_deed" CF xR):pZ P w K mg base 67 "read_deeds" CH uy:=pZ.of (k:=66) A KZ λf j0 A outer s H E hr=>by have hu:=gG hr;unfold Z0;exact qR (vO<|aZ 2 KZ.nd<|bj<|Zc (YI (C:=dZ) (c:=sv) (k:=1) (ps:=ya) eX.ok DG eX.mg (hr.mono aaA)<|Zc (qN<|Zc Zy Zg) Zg) Zg)<|qR (Zvi PassesOwn.leaving J (qQ<|Zd 0) (Qk J<|pW 3 KZ.nd<|pW 4 KZ.nd FW)<|qR (vO<|aZ 5 KZ.nd<|cT R7 (hr.mono aaA)<|Zc (Zd 4) Zg)<|qR (JW (CW.ct<|uh (bF JL (Zd 5) oU)<|xF<|FT<|rP<|cT R8 (hr.mono aaA)<|Zc (Zd 2)<|Zc (bw bx (Zd 5) Zk) Zg) (vP<|QT (C:=bZ) (fI:=jX) (fn:="row") (CL:=fD) (qual:="BadRow.__init__") (st:=vX) (ps:=zd) XO.Ag (Q6 XO) (hr.mono aaA) XO.G8<|Zc (Zd 3) Zg)<|JV cL)<|vP<|vO<|iQ<|cT RZ (hr.mono aaA)<|Zc (Zd 2)<|Zc (Zd 5) Zg)<|qR (JW (bF um (dX (id:="len") fU T.fH fL<|Zc (Zd 2) Zg) Zk) (vP<|QT (C:=bZ) (fI:=jX) (fn:="row") (CL:=fD) (qual:="BadRow.__init__") (st:=vX) (ps:=zd) XO.Ag (Q6 XO) (hr.mono aaA) XO.G8<|Zc (Zd 1) Zg)<|JV cL)<|vP<|vO<|bU<|oV (T:="tuple") rT T.qX rW<|Zc (bw bx (xM (C:=dZ) (c:=sv) (m:=vx) eX.ok eX.Ah<|bw bx (Zd 2) Zk) Zk) Zg
def Gw:dN ["text","lines","rows","taken"] ["text"] (bJ Kd):=gB
def Zt0(A:gm K mg "read" Kd ["text"])(T:Txt K mg)(LR:pZ P w K mg base 3 "read_taken" ["row"] vV)(L_:pZ P w K mg base 67 "read_deeds" CH uy):pZ P w K mg base 68 "read" ["text"] vW:=pZ.of (k:=67) A Gw λf j0 A outer s H E hr=>by have hu:=gG hr;unfold CJ;exact qR (vO<|aZ 1 Gw.nd<|YG (Zd 0)<|Zc Zy Zg)<|qR (vO<|XZ (N':=EM) 2 (pY J aaD) J J Gw.nd (Zrl T.R5<|Zd 1) λC cl s H ex=>⟨(Qk J<|pW 4 (tm EM)<|pW 5 (tm EM) FW),(ZuU<|bF (Qy hu) (Zd 5) Zy),(qN<|Zc (Zd 4)<|Zc (YG (Zd 5)<|Zc Zy Zg) Zg)⟩)<|qR (vO<|aZ 3 Gw.nd<|qN Zg)<|qR (JW (CW.ct<|rQ (bF um (dX (id:="len") fU T.fH fL<|Zc (Zd 2) Zg) Zk)<|zE<|bF (dR hu) (bw bx (bw bx (bw bx (Zd 2) Zk) Zk) Zk) Zy) (qR (Zuo 3 Gw.nd<|YT LR (hr.mono aaA)<|Zc (bw bx (Zd 2) Zk) Zg)<|vP<|vO<|aZ 2 Gw.nd<|jb jc (Zd 2) (iM Zk) jj)<|JV cL)<|vP<|ZuW<|ZxR (Zd 3)<|YT L_ (hr.mono aaA)<|Zc (Zd 2)<|Zc (Zr bW (dX (id:="len") fU T.fH fL<|Zc (Zd 1) Zg) Zk) Zg
def EW:dN ["deck","cells","at"] uj (bJ Kq):=gB
def ZlV(A:gm K mg "_law_next" Kq uj)(T:Txt K mg):aY P w K mg base 1 "_law_next" uj gn:=aY.of (k:=0) A EW λf j0 A outer s H E hr=>by have hu:=gG hr;unfold Gu;exact Zh (aZ 1 EW.nd<|bw bx (Zd 0) Zk)<|Zh (aZ 2 EW.nd<|bw bx (Zd 0) Zk)<|Zh (X_ (Zd 0) Zk<|Zr bW (Zd 2) Zk)<|Zh (cF (bF xG (Zd 2)<|dX (id:="len") fU T.fH fL<|Zc (Zd 1) Zg) (Zu<|bU<|bw bx (Zd 1)<|Zd 2) cL)<|Zh (cF (bF (dR hu) (dX (id:="len") fU T.fH fL<|Zc (Zd 1) Zg) Zk) (Zu<|bU<|Zr bW (Zr xJ (Zr xJ (Zd 2)<|Zd 2) Zk)<|Zd 2) cL)<|Zu<|bU<|Zr bW (Zr di (bw bx (Zd 1)<|Zr bY (Zd 2)<|dX (id:="len") fU T.fH fL<|Zc (Zd 1) Zg) Zk)<|Zr xJ (Zd 2)<|Zd 2
def nF:dN ["deck","own","letters","cell","more","first","other","names","k","sign","name"] uj (bJ Kr):=gB
def Zk3(A:gm K mg "_law_names" Kr uj)(T:Txt K mg)(je:aY P w K mg base 1 "_law_next" uj gn):aY P w K mg base 2 "_law_names" uj QZ:=
  aY.of (k:=1) A nF λf j0 A outer s H E hr=>by
    have hu:=gG hr;unfold Z2;refine Zh ?_ ?_
    refine aZ 1 ?_ ?_;exact nF.nd;refine bj ?_;refine Zc ?_ ?_;exact Zy;refine Zc ?_ ?_;exact Zy;refine Zc ?_ ?_;exact Zy;refine Zc ?_ ?_;exact Zy;refine Zc ?_ ?_;exact Zy;exact Zc Zy<|Zc Zy<|Zc Zy<|Zc Zy<|Zc Zy<|Zc Zy<|Zc Zy Zg;refine Zh (aZ 2 nF.nd Zy) ?_;refine Zh (aZ 3 nF.nd<|cT je (hr.mono aaA)<|Zc (Zd 0) Zg) ?_;refine Zh (aZ 4 nF.nd<|Zr di (Zd 3) Zk) ?_;refine Zh (aZ 5 nF.nd<|bw bx (Zd 2)<|Zr bY (Zd 4) Zk) ?_;refine Zh (aZ 6 nF.nd<|bw bx (Zd 2)<|Zr bY (Zr di (Zd 4) Zk) Zk) ?_;refine Zh (aZ 7 nF.nd<|bj Zg) ?_;refine Zh ?_<|Zu<|bU<|Zd 7;refine JH ?_ ?_ ?_ ?_ ?_;exact rfl;exact rfl;exact Ql T.Mh Zk;exact nC 8 nF.nd;refine Zh (aZ 9 nF.nd<|bw bx (Zd 2)<|Zr bY (Zr bW (Zd 4)<|Zd 8) Zk) ?_;refine Zh (aZ 10 nF.nd<|Zr xJ (Zd 9)<|Zr bW Zk<|Zr bY (Zr di (Zd 4) Zk) Zk) ?_;refine Zh ?_ ?_;refine cF ?_ ?_ ?_;exact bF (dR hu) (Zr bY (Zd 3) Zk) Zk;exact Zu<|aZ 10 nF.nd<|Zr bW (bw bx (Zd 1)<|Zr bY (Zr bW (Zd 8)<|Zd 4) Zk)<|Zd 6;exact cL;refine Zh ?_ ?_;refine cF ?_ ?_ ?_;exact bF (dR hu) (Zr bY (Zd 3) Zk) Zk;refine Zh ?_<|Zu<|aZ 10 nF.nd<|jb jc (Zd 10) jj<|iM Zk;refine aZ 10 ?_ ?_;exact nF.nd;refine Zr ?_ ?_ ?_;exact bW;exact Zr xJ (Zd 5)<|Zr bW Zk<|Zr bY (Zd 8) Zk;exact Zr xJ (bw bx (Zd 2)<|Zr bY (Zr bW (Zd 4) Zk) Zk)<|Zr di (Zd 8) Zk;exact cL;refine Zh ?_ ?_;refine cF ?_ ?_ ?_;exact bF (dR hu) (Zr bY (Zd 3) Zk) Zk;refine Zu ?_;refine aZ 10 ?_ ?_;exact nF.nd;refine Zr ?_ ?_ ?_;exact bW;exact Zr bW (Zd 6)<|Zd 9;refine Zr ?_ ?_ ?_;exact xJ;exact bw bx (Zd 2)<|Zr bY (Zr di (Zd 4) Zk) Zk;exact Zr bY (Zr di (Zd 4) Zk) Zk;exact cL;refine Zh (cF (bF Zza (Zd 10)<|Zd 1) (Zu<|aZ 10 nF.nd<|Zr bW (Zd 10) Zy) cL)<|Zu<|iQ<|lD (Zd 7)<|Zc (Zd 10) Zg
def lg:dN ["cell","number"] yb (bJ Ks):=gB
def Zk9(A:gm K mg "_law_value" Ks yb)(T:Txt K mg):aY P w K mg base 1 "_law_value" yb zT:=aY.of (k:=0) A lg λf j0 A outer s H E hr=>by have hu:=gG hr;unfold Z3;exact Zh (aZ 1 lg.nd<|Zr bY (Zr di (Zd 0) Zk)<|Zr ZzC Zk Zk)<|Zu<|bU<|bw bx (bj<|Zc (Zr bY (Zr di (Zd 0) Zk) Zk)<|Zc (Zr vJ (lX lY Zk)<|Zr bY (Zr di (Zd 0) Zk) Zk)<|Zc (Zd 1)<|Zc (Zr vJ (lX lY Zk)<|Zd 1) Zg)<|Zr bY (Zd 0) Zk
def CV:dN ["deck","names","deep","most","words","due","d","cell","room","way"] AX (bJ Ku):=gB
def ZnL(A:gm K mg "_law_sum" Ku AX)(T:Txt K mg)(je:aY P w K mg base 1 "_law_next" uj gn)(R0:aY P w K mg base 1 "_law_value" yb zT):aY P w K mg base 2 "_law_sum" AX uz:=aY.of (k:=1) A CV λf j0 A outer s H E hr=>by have hu:=gG hr;unfold Z4;exact Zh (aZ 4 CV.nd<|bj Zg)<|Zh (aZ 5 CV.nd<|bj<|Zc (Zd 2) Zg)<|Zh (UN J (bF (Qy hu) (Zd 5)<|bj Zg)<|Zh (aZ 6 CV.nd<|QC<|Zd 5)<|Zh (aZ 7 CV.nd<|cT je (hr.mono aaA)<|Zc (Zd 0) Zg)<|Zh (aZ 8 CV.nd<|Zr vJ (Zr vJ (Zr vJ (Zd 3)<|dX (id:="len") fU T.fH fL<|Zc (Zd 4) Zg)<|dX (id:="len") fU T.fH fL<|Zc (Zd 5) Zg) Zk)<|Zh (aZ 9 CV.nd<|Zr bY (Zd 7) Zk)<|Zu<|cF (CW.ct<|rQ (bF xG (Zd 9) Zk)<|rQ (bF um (Zd 6) Zk)<|zE<|bF um (Zd 8) Zk) (Zh (iQ<|lD (Zd 4)<|Zc (bw bx (bj<|Zc Zy<|Zc Zy<|Zc Zy Zg)<|Zd 9) Zg)<|Zu<|iQ<|XU (Zd 5)<|Zc (bj<|Zc (Zr vJ (Zd 6) Zk)<|Zc (Zd 6) Zg) Zg)<|Zu<|cF (CW.ct<|rQ (bF (dR hu) (Zd 9) Zk)<|zE<|bF um (Zd 8) Zk) (Zh (iQ<|lD (Zd 4)<|Zc Zy Zg)<|Zu<|iQ<|lD (Zd 5)<|Zc (Zd 6) Zg)<|Zu<|cF (bF xG (Zd 9) Zk) (Zu<|iQ<|lD (Zd 4)<|Zc (bw bx (Zd 1)<|Zr bY (Zr di (Zd 7) Zk) Zk) Zg)<|Zu<|iQ<|lD (Zd 4)<|Zc (cT R0 (hr.mono aaA)<|Zc (Zr di (Zd 7) Zk) Zg) Zg)<|Zu<|bU<|oV (T:="tuple") rT T.qX rW<|Zc (Zd 4) Zg
def Q7:dN ["deck","names","cell","most","one"] CM (bJ Kv):=gB
def Zmt(A:gm K mg "_law_deed" Kv CM)(T:Txt K mg)(uO:aY P w K mg base 2 "_law_sum" AX uz):aY P w K mg base 3 "_law_deed" CM Q0:=aY.of (k:=2) A Q7 λf j0 A outer s H E hr=>by have hu:=gG hr;unfold Z5;exact Zh (aZ 3 Q7.nd<|bw bx (bj<|Zc Zk<|Zc Zk<|Zc Zk<|Zc Zk Zg)<|Zr bY (Zr di (Zd 2) Zk) Zk)<|Zh (cF (bF (dR hu) (Zr bY (Zr di (Zd 2) Zk) Zk) Zk) (Zu<|aZ 3 Q7.nd Zk) cL)<|Zh (aZ 4 Q7.nd<|cT uO (hr.mono aaA)<|Zc (Zd 0)<|Zc (Zd 1)<|Zc (Zr bW Zk<|Zr bY (Zr di (Zd 2) Zk) Zk)<|Zc (Zd 3) Zg)<|Zh (cF (bF (dR hu) (Zr bY (Zd 2) Zk) Zk) (Zu<|bU<|qN<|Zc Zy<|Zc (bw bx (Zd 1)<|Zr bY (Zr di (Zd 2) Zk) Zk)<|Zc (Zd 4) Zg) cL)<|Zh (cF (bF (dR hu) (Zr bY (Zd 2) Zk) Zk) (Zu<|bU<|qN<|Zc Zy<|Zc (Zd 4)<|Zc (cT uO (hr.mono aaA)<|Zc (Zd 0)<|Zc (Zd 1)<|Zc (Zr bW Zk<|Zr bY (Zr di (Zd 2) Zk) Zk)<|Zc (Zd 3) Zg) Zg) cL)<|Zu<|bU<|qN<|Zc Zy<|Zc (Zd 4) Zg
def EZ:dN ["deed","words","part"] ["deed"] (bJ Kw):=gB
def ZkQ(A:gm K mg "_law_words" Kw ["deed"])(T:Txt K mg):aY P w K mg base 1 "_law_words" ["deed"] CK:=aY.of (k:=0) A EZ λf j0 A outer s H E hr=>by have hu:=gG hr;unfold Z6;exact Zh (aZ 1 EZ.nd<|bj<|Zc (bw bx (Zd 0) Zk) Zg)<|Zh (JH J J (qQ<|jb jc (Zd 0) (iM Zk) jj) (nC 2 EZ.nd)<|Zu<|cF (rP<|XR .str T.DP T.dv<|Zd 2) (Zu<|iQ<|lD (Zd 1)<|Zc (Zd 2) Zg)<|Zu<|iQ<|XU (Zd 1)<|Zc (xH (N':=Mc) (pY J aaD) J J (qQ<|Zd 2) λC cl s H ex=>⟨(nC 3<|tm Mc),qP,(oV (T:="str") AeH T.dv Zxe<|Zc (Zd 3) Zg)⟩) Zg)<|Zu<|bU<|Gd Zy<|Zc (Zd 1) Zg
def CZ:dN ["stack","deeds","word","what","outer","ahead","deed"] BN (bJ Ky):=gB
def Zkx(A:gm K mg "_law_closed" Ky BN)(T:Txt K mg):aY P w K mg base 1 "_law_closed" BN zU:=aY.of (k:=0) A CZ λf j0 A outer s H E hr=>by have hu:=gG hr;unfold Z7;exact Zh (XN J (bw bx (Zd 0)<|lX lY Zk)<|pW 2 CZ.nd<|pW 3 CZ.nd<|pW 4 CZ.nd<|pW 5 CZ.nd FW)<|Zh (aZ 6 CZ.nd<|qN<|Zc (Zd 2)<|Zc (Zd 3)<|Zc (oV (T:="tuple") rT T.qX rW<|Zc (Zd 1) Zg) Zg)<|Zh (cF (bF (dR hu) (Zd 2) Zy) (Zu<|aZ 6 CZ.nd<|qN<|Zc (Zd 2)<|Zc (Zd 3)<|Zc (Zd 5)<|Zc (oV (T:="tuple") rT T.qX rW<|Zc (Zd 1) Zg) Zg) cL)<|Zu<|bU<|Zr bW (Zd 4)<|bj<|Zc (Zd 6) Zg
def C_:dN ["deck","names","stack","deeds","cell","way","what","word","deed"] CU (bJ Kz):=gB
def Znw(A:gm K mg "_law_row" Kz CU)(T:Txt K mg)(je:aY P w K mg base 1 "_law_next" uj gn)(uO:aY P w K mg base 2 "_law_sum" AX uz)(R9:aY P w K mg base 3 "_law_deed" CM Q0)(Ae:aY P w K mg base 1 "_law_words" ["deed"] CK)(DN:aY P w K mg base 1 "_law_closed" BN zU):aY P w K mg base 4 "_law_row" CU CP:=aY.of (k:=3) A C_ λf j0 A outer s H E hr=>by have hu:=gG hr;unfold CN;exact Zh (aZ 4 C_.nd<|cT je (hr.mono aaA)<|Zc (Zd 0) Zg)<|Zh (aZ 5 C_.nd<|Zr bY (Zd 4) Zk)<|Zh (cF (CW.ct<|rQ (bF (dR hu) (Zd 5) Zk)<|rQ (bF (ZD hu) (Zd 2)<|bj Zg)<|rQ (bF (dR hu) (bw bx (bw bx (Zd 2)<|lX lY Zk) Zk) Zy)<|zE<|bF JL (bw bx (bw bx (Zd 2)<|lX lY Zk) Zk) oU) (Zh (X_ (bw bx (Zd 2)<|lX lY Zk) Zk<|oV (T:="tuple") rT T.qX rW<|Zc (Zd 3) Zg)<|Zu<|bU<|bj<|Zc Zy<|Zc (bj Zg) Zg) cL)<|Zh (cF (CW.ct<|rQ (bF um (Zd 5) Zk)<|rQ (bF (ZD hu) (Zd 2)<|bj Zg)<|zE<|CW.ct<|uh (bF (dR hu) (bw bx (bw bx (Zd 2)<|lX lY Zk) Zk) Zy)<|xF<|bF ZvB (bw bx (bw bx (Zd 2)<|lX lY Zk) Zk) oU) (Zh (aZ 3 C_.nd<|cT DN (hr.mono aaA)<|Zc (Zd 2)<|Zc (Zd 3) Zg)<|Zh (iQ<|QC<|Zd 2)<|Zu<|bU<|bj<|Zc Zy<|Zc (Zd 3) Zg) cL)<|Zh (cF (CW.ct<|rQ (ZsP Xg xG Zk (Zd 5) Zk)<|zE<|bF xG (dX (id:="len") fU T.fH fL<|Zc (Zd 2) Zg) Zk) (Zh (aZ 6 C_.nd<|cT uO (hr.mono aaA)<|Zc (Zd 0)<|Zc (Zd 1)<|Zc (Zr bW Zk<|Zr bY (Zr di (Zd 4) Zk) Zk)<|Zc (Zr bW Zk<|Zr bY (Zr di (Zd 4) Zk) Zk) Zg)<|Zh (aZ 7 C_.nd<|bw bx (bj<|Zc Zy<|Zc Zy<|Zc Zy Zg)<|Zr vJ (Zd 5) Zk)<|Zh (iQ<|lD (Zd 2)<|Zc (bj<|Zc (Zd 7)<|Zc (Zd 6)<|Zc (Zd 3)<|Zc oU Zg) Zg)<|Zu<|bU<|bj<|Zc (cT Ae (hr.mono aaA)<|Zc (qN<|Zc (Zd 7)<|Zc (Zd 6) Zg) Zg)<|Zc (bj Zg) Zg) cL)<|Zh (aZ 8 C_.nd<|cT R9 (hr.mono aaA)<|Zc (Zd 0)<|Zc (Zd 1)<|Zc (Zr di (Zd 4) Zk) Zg)<|Zu<|bU<|bj<|Zc (cT Ae (hr.mono aaA)<|Zc (Zd 8) Zg)<|Zc (Zr bW (Zd 3)<|bj<|Zc (Zd 8) Zg) Zg
def p7:dN ["deck","names","many","most","rows","stack","deeds","used","k","kept","row","behind"] CY (bJ KC):=gB
def Zja(A:gm K mg "_law_program" KC CY)(T:Txt K mg)(DN:aY P w K mg base 1 "_law_closed" BN zU)(Sd:aY P w K mg base 4 "_law_row" CU CP):aY P w K mg base 5 "_law_program" CY Q3:=aY.of (k:=4) A p7 λf j0 A outer s H E hr=>by have hu:=gG hr;unfold Z8;exact Zh (aZ 4 p7.nd<|bj Zg)<|Zh (aZ 5 p7.nd<|bj Zg)<|Zh (aZ 6 p7.nd<|bj Zg)<|Zh (aZ 7 p7.nd Zk)<|Zh (JH J J (Ql T.Mh<|Zd 2) (nC 8 p7.nd)<|Zh (VZ (N':=oT) 9 (pY J aaD) J J p7.nd (qQ<|Zd 5) λC cl s H ex=>⟨(nC 12<|tm oT),qP,(oV (T:="list") ZxF T.AdQ Zuz<|Zc (Zd 12) Zg)⟩)<|Zh (XN J (cT Sd (hr.mono aaA)<|Zc (Zd 0)<|Zc (Zd 1)<|Zc (Zd 5)<|Zc (Zd 6) Zg)<|pW 10 p7.nd<|pW 11 p7.nd FW)<|Zh (cF (bF um (Zr bW (Zd 7)<|dX (id:="len") fU T.fH fL<|Zc (Zd 10) Zg)<|Zd 3) (Zh (aZ 5 p7.nd<|Zd 9)<|Zu ZrT) cL)<|Zh (aZ 6 p7.nd<|Zd 11)<|Zh (aZ 7 p7.nd<|Zr bW (Zr bW (Zd 7)<|dX (id:="len") fU T.fH fL<|Zc (Zd 10) Zg) Zk)<|Zu<|iQ<|lD (Zd 4)<|Zc (Zd 10) Zg)<|Zh (UN J (bF (ZD hu) (Zd 5)<|bj Zg)<|Zh (cF (CW.ct<|rQ (bF (dR hu) (bw bx (bw bx (Zd 5)<|lX lY Zk) Zk) Zy)<|zE<|bF JL (bw bx (bw bx (Zd 5)<|lX lY Zk) Zk) oU) (Zh (X_ (bw bx (Zd 5)<|lX lY Zk) Zk<|oV (T:="tuple") rT T.qX rW<|Zc (Zd 6) Zg)<|Zh (aZ 6 p7.nd<|bj Zg)<|Zu<|iQ<|lD (Zd 4)<|Zc Zy Zg) cL)<|Zh (aZ 6 p7.nd<|cT DN (hr.mono aaA)<|Zc (Zd 5)<|Zc (Zd 6) Zg)<|Zh (iQ<|QC<|Zd 5)<|Zu<|iQ<|lD (Zd 4)<|Zc Zy Zg)<|Zu<|bU<|bj<|Zc (Zd 4)<|Zc (oV (T:="tuple") rT T.qX rW<|Zc (Zd 6) Zg) Zg
def Q8:dN ["cell","odd"] yb (bJ KD):=gB
def Zjc(A:gm K mg "_law_no_word" KD yb)(T:Txt K mg):aY P w K mg base 1 "_law_no_word" yb zV:=
  aY.of (k:=0) A Q8 λf j0 A outer s H E hr=>by
    have hu:=gG hr;unfold Z9;refine Zh ?_ ?_
    refine aZ 1 ?_ ?_;exact Q8.nd;refine bj ?_;refine Zc ?_ ?_;exact Zy;refine Zc ?_ ?_;exact Zy;refine Zc ?_ ?_;exact Zy;refine Zc ?_ ?_;exact Zy;refine Zc ?_ ?_;exact Zy;refine Zc ?_ ?_;exact Zy;refine Zc ?_ ?_;exact Zy;exact Zc Zy<|Zc Zy<|Zc Zy<|Zc Zy<|Zc Zy<|Zc Zy<|Zc Zy Zg;refine Zh ?_ ?_;refine aZ 1 ?_ ?_;exact Q8.nd;refine Zr ?_ ?_ ?_;exact bW;refine Zr ?_ ?_ ?_;exact bW;exact Zd 1;refine jb ?_ ?_ ?_ ?_;exact jc;refine bj ?_;refine Zc ?_ ?_;exact Zy;refine Zc ?_ ?_;exact Zr xJ Zy Zk;exact Zc (Zr bW Zy<|Zr xJ Zy Zk)<|Zc Zy<|Zc Zy<|Zc Zy Zg;exact jj;exact iM Zk;exact bj<|Zc Zy<|Zc Zy<|Zc Zy<|Zc Zy<|Zc Zy Zg;refine Zh (aZ 1 Q8.nd<|Zr bW (Zd 1)<|bj<|Zc Zy<|Zc Zy<|Zc Zy<|Zc Zy Zg)<|Zu<|bU<|bw bx (Zd 1)<|Zr bY (Zd 0)<|dX (id:="len") fU T.fH fL<|Zc (Zd 1) Zg
def Dc:dN ["deck","names","cell","deed","words","first","at","way"] C0 (bJ KH):=gB
def Zjh(A:gm K mg "_law_bad_sum" KH C0)(T:Txt K mg)(je:aY P w K mg base 1 "_law_next" uj gn)(uO:aY P w K mg base 2 "_law_sum" AX uz)(Ae:aY P w K mg base 1 "_law_words" ["deed"] CK)(DK:aY P w K mg base 1 "_law_no_word" yb zV):aY P w K mg base 3 "_law_bad_sum" C0 Q4:=
  aY.of (k:=2) A Dc λf j0 A outer s H E hr=>by
    have hu:=gG hr;unfold Z_;refine Zh (aZ 2 Dc.nd<|cT je (hr.mono aaA)<|Zc (Zd 0) Zg) ?_;refine Zh ?_ ?_
    refine aZ 3 ?_ ?_;exact Dc.nd;refine bw ?_ ?_ ?_;exact bx;refine bj ?_;refine Zc ?_ ?_;exact qN<|Zc Zy Zg;refine Zc ?_ ?_;exact qN<|Zc Zy Zg;refine Zc ?_ ?_;exact qN<|Zc Zy<|Zc (bw bx (Zd 1)<|Zr bY (Zr di (Zd 2) Zk) Zk) Zg;exact Zg;exact Zr bY (Zd 2) Zk;refine Zh ?_ ?_;refine aZ 4 ?_ ?_;exact Dc.nd;refine YG ?_ ?_;refine cT Ae (hr.mono aaA) ?_;refine Zc ?_ ?_;refine Zr ?_ ?_ ?_;exact bW;exact Zd 3;exact qN<|Zc (cT uO (hr.mono aaA)<|Zc (Zd 0)<|Zc (Zd 1)<|Zc Zk<|Zc Zk Zg) Zg;exact Zg;exact Zc Zy Zg;refine Zh (aZ 5 Dc.nd<|dX (id:="len") fU T.fH fL<|Zc (Zd 3) Zg) ?_;refine Zh ?_ ?_;refine aZ 6 ?_ ?_;exact Dc.nd;refine Zr ?_ ?_ ?_;exact bW;exact Zd 5;exact Zr bY (Zr di (Zd 2) Zk)<|Zr vJ (dX (id:="len") fU T.fH fL<|Zc (Zd 4) Zg)<|Zd 5;refine Zh (aZ 7 Dc.nd<|Zr bY (Zr di (Zd 2) Zk) Zk) ?_;refine Zh (cF (bF (dR hu) (Zd 7) Zk) (Zu<|bU<|jb jc (Zd 4) jj<|iM<|lX lY Zk) cL) ?_;refine Zh ?_ ?_;refine cF ?_ ?_ ?_;exact bF (dR hu) (Zd 7) Zk;refine Zu ?_;refine bU ?_;refine Zr ?_ ?_ ?_;exact bW;exact Zd 4;refine bj ?_;refine Zc ?_ ?_;refine bw ?_ ?_ ?_;exact bx;exact bj<|Zc Zy<|Zc Zy<|Zc Zy<|Zc (bw bx (Zd 1) Zk) Zg;exact Zr bY (Zr di (Zd 2) Zk) Zk;exact Zg;exact cL;refine Zu ?_;refine bU ?_;refine Zr ?_ ?_ ?_;exact bW;refine Zr ?_ ?_ ?_;exact bW;exact jb jc (Zd 4) jj<|iM<|Zd 6;exact bj<|Zc (cT DK (hr.mono aaA)<|Zc (Zr di (Zd 2) Zk) Zg) Zg;exact jb jc (Zd 4) (iM<|Zr bW (Zd 6) Zk) jj
def Gx:dN ["deck","names","first","cell","way","some","own","odd"] yf (bJ KJ):=gB
def Zin(A:gm K mg "_law_bad_head" KJ yf)(T:Txt K mg)(je:aY P w K mg base 1 "_law_next" uj gn)(DK:aY P w K mg base 1 "_law_no_word" yb zV):aY P w K mg base 2 "_law_bad_head" yf J6:=
  aY.of (k:=1) A Gx λf j0 A outer s H E hr=>by
    have hu:=gG hr;unfold J5;refine Zh (aZ 3 Gx.nd<|cT je (hr.mono aaA)<|Zc (Zd 0) Zg) ?_;refine Zh (aZ 4 Gx.nd<|Zr bY (Zd 3) Zk) ?_;refine Zh ?_ ?_
    refine VZ (N':=hσ) 5 ?_ ?_ ?_ ?_ ?_ λC cl s H ex=>⟨?_,?_,?_⟩;exact pY J aaD;exact rfl;exact rfl;exact Gx.nd;exact Ql T.Mh Zk;exact nC 8<|tm hσ;exact qP;exact bw bx (Zd 1)<|Zr bY (Zr bW (Zr di (Zd 3) Zk)<|Zd 8) Zk;refine Zh ?_ ?_;refine cF ?_ ?_ ?_;exact bF (dR hu) (Zd 4) Zk;refine Zu ?_;refine bU ?_;refine bj ?_;refine Zc ?_ ?_;refine bw ?_ ?_ ?_;exact bx;refine bj ?_;exact Zc Zy<|Zc Zy<|Zc Zy<|Zc Zy<|Zc Zy<|Zc (bw bx (Zd 1) Zk) Zg;exact Zr bY (Zr di (Zd 3) Zk) Zk;exact Zc (bw bx (Zd 1) Zk)<|Zc Zy Zg;exact cL;refine Zh ?_ ?_;refine aZ 6 ?_ ?_;exact Gx.nd;refine bj ?_;refine Zc ?_ ?_;exact Zy;refine Zc ?_ ?_;exact Zy;refine Zc ?_ ?_;exact Zy;refine Zc ?_ ?_;exact Zy;refine Zc ?_ ?_;exact Zy;exact Zc Zy<|Zc Zy<|Zc Zy<|Zc Zy<|Zc Zy<|Zc Zy<|Zc Zy Zg;refine Zh ?_ ?_;refine aZ 7 ?_ ?_;exact Gx.nd;refine bw ?_ ?_ ?_;exact bx;refine bj ?_;refine Zc ?_ ?_;exact bw bx (Zd 6)<|Zr bY (Zr di (Zd 3) Zk) Zk;exact Zc (cT DK (hr.mono aaA)<|Zc (Zr di (Zd 3) Zk) Zg) Zg;exact Zr bY (Zr di (Zd 3) Zk) Zk;refine Zh (cF (bF (dR hu) (Zd 4) Zk) (Zu<|bU<|bj<|Zc Zy<|Zc (Zd 7)<|Zc Zy Zg) cL) ?_;refine Zh ?_ ?_;refine cF ?_ ?_ ?_;exact bF (dR hu) (Zd 4) Zk;refine Zu ?_;refine bU ?_;refine bj ?_;refine Zc ?_ ?_;exact bw bx (bj<|Zc Zy<|Zc Zy Zg)<|Zr bY (Zr di (Zd 3) Zk) Zk;refine Zc ?_ ?_;refine bw ?_ ?_ ?_;exact bx;exact bj<|Zc Zy<|Zc Zy<|Zc Zy Zg;exact Zr bY (Zr di (Zd 3) Zk) Zk;exact Zg;exact cL;refine Zh ?_ ?_;refine cF ?_ ?_ ?_;exact bF (dR hu) (Zd 4) Zk;refine Zu ?_;refine bU ?_;refine Zr ?_ ?_ ?_;exact bW;exact bj<|Zc Zy Zg;refine bw ?_ ?_ ?_;exact bx;refine bj ?_;refine Zc ?_ ?_;exact bj Zg;refine Zc ?_ ?_;exact Zd 5;refine Zc ?_ ?_;exact Zr bW (jb jc (Zd 5) jj<|iM Zk)<|jb jc (Zd 5) jj<|iM Zk;refine Zc ?_ ?_;exact bj<|Zc (Zd 7) Zg;refine Zc ?_ ?_;exact Zr bW (jb jc (Zd 5) jj<|iM Zk)<|bj<|Zc (Zd 7) Zg;exact Zc (Zr bW (bj<|Zc (Zd 7) Zg)<|jb jc (Zd 5) jj<|iM Zk) Zg;exact Zr bY (Zr di (Zd 3) Zk) Zk;exact cL;refine Zh ?_ ?_;refine cF ?_ ?_ ?_;exact bF (dR hu) (Zd 4) Zk;refine Zu ?_;refine bU ?_;refine bw ?_ ?_ ?_;exact bx;refine bj ?_;refine Zc ?_ ?_;exact bj<|Zc Zy Zg;refine Zc ?_ ?_;exact bj<|Zc Zy Zg;refine Zc ?_ ?_;exact bj<|Zc Zy<|Zc (bw bx (Zd 1) Zk) Zg;refine Zc ?_ ?_;exact bj<|Zc Zy Zg;refine Zc ?_ ?_;exact bj<|Zc Zy<|Zc Zy Zg;exact Zc (bj<|Zc Zy Zg)<|Zc (bj<|Zc Zy Zg) Zg;exact Zr bY (Zr di (Zd 3) Zk) Zk;exact cL;refine Zh ?_ ?_;refine cF ?_ ?_ ?_;exact bF (dR hu) (Zd 4) Zk;refine Zu ?_;refine bU ?_;refine bw ?_ ?_ ?_;exact bx;refine bj ?_;refine Zc ?_ ?_;exact bj<|Zc Zy<|Zc Zy<|Zc Zy Zg;refine Zc ?_ ?_;exact bj<|Zc Zy<|Zc Zy<|Zc Zy Zg;refine Zc ?_ ?_;exact bj<|Zc Zy<|Zc Zy<|Zc Zy Zg;exact Zc (bj<|Zc Zy<|Zc Zy Zg)<|Zc (bj<|Zc Zy<|Zc Zy Zg) Zg;exact Zr bY (Zr di (Zd 3) Zk) Zk;exact cL;refine Zh ?_ ?_;refine cF ?_ ?_ ?_;exact CW.ct<|uh (bF (dR hu) (Zd 4) Zk)<|xF<|rP<|Zd 2;refine Zu ?_;refine bU ?_;refine bj ?_;refine Zc ?_ ?_;exact Zy;refine Zc ?_ ?_;exact Zy;refine Zc ?_ ?_;exact bw bx (Zd 1) Zk;refine Zc ?_ ?_;refine bw ?_ ?_ ?_;exact bx;exact bj<|Zc Zy<|Zc (bw bx (Zd 1) Zk)<|Zc Zy Zg;exact Zr bY (Zr di (Zd 3) Zk) Zk;exact Zg;exact cL;refine Zu ?_;refine bU ?_;refine Zr ?_ ?_ ?_;exact bW;exact bj<|Zc Zy Zg;exact jb jc (Zd 5) jj<|iM<|Zr bW Zk<|Zr bY (Zr di (Zd 3) Zk) Zk
def ZnP:dN yf yf (bJ KN):=gB
def ZmU(A:gm K mg "_law_bad" KN yf)(T:Txt K mg)(je:aY P w K mg base 1 "_law_next" uj gn)(RP:aY P w K mg base 3 "_law_bad_sum" C0 Q4)(RN:aY P w K mg base 2 "_law_bad_head" yf J6):aY P w K mg base 4 "_law_bad" yf zW:=aY.of (k:=3) A ZnP λf j0 A outer s H E hr=>by have hu:=gG hr;unfold J7;exact Zh (cF (bF (dR hu) (Zr bY (cT je (hr.mono aaA)<|Zc (Zd 0) Zg) Zk) Zk) (Zu<|bU<|Gd Zy<|Zc (cT RP (hr.mono aaA)<|Zc (Zd 0)<|Zc (Zd 1) Zg) Zg) cL)<|Zu<|bU<|Gd Zy<|Zc (cT RN (hr.mono aaA)<|Zc (Zd 0)<|Zc (Zd 1)<|Zc (Zd 2) Zg) Zg
def Q9:dN ["text","row","caught","e"] C2 (bJ KQ):=gB
def Zi5(A:gm K mg "_law_refused" KQ C2)(T:Txt K mg){fD jF jE bZ jD jG jH jJ jK jX:Yy}(XO:KY K mg fD jF jE bZ jD jG jH jJ jK jX)(Ml:pZ P w K mg base 68 "read" ["text"] vW):aY P w K mg base 69 "_law_refused" C2 Q5:=aY.of (k:=68) A Q9 λf j0 A outer s H E hr=>by have hu:=gG hr;unfold EN;exact Zh (aZ 2 Q9.nd oU)<|Zh (Zw8 (cs:=[sC]) (CE:=fD) 3 Q9.nd XO.gh XO.Ab4 (λQG E'=>(vP<|Zsz<|YT Ml (hr.mono aaA)<|Zc (Zd 0) Zg)) λA' E'=>(Zu<|aZ 2 Q9.nd<|Zd 3))<|Zh (cF (rP<|Zsi (cs:=[jF,jE,jD,jG,jH,jJ,jK]) T.DP XO.Abd (Zd 2)<|(Cp XO.AcP<|Cp XO.Acj<|Cp XO.Ab7<|Cp XO.AcQ<|Cp XO.AcR<|Cp XO.Ads<|Cp XO.Adt Zxq)) (Zu<|bU FQ) cL)<|Zh (cF (CW.ct<|uh (FT<|rP<|Ztw (C:=bZ) T.DP XO.G8 XO.Adu<|Zd 2)<|xF<|FT<|rP<|Zr5 (T:="ValueError") T.DP T.Ab9 Zjb XO.Ab8<|Zd 2) (Zu<|bU FQ) cL)<|Zu<|bU<|Xd (XR .int T.DP T.sk<|ZK (C:=bZ) (c:=sC) (m:=xI) XO.Sv<|Zd 2)<|Xd (UK<|XR .bool T.DP T.AdP<|ZK (C:=bZ) (c:=sC) (m:=xI) XO.Sv<|Zd 2)<|W_<|zB (dR hu) (ZK (C:=bZ) (c:=sC) (m:=xI) XO.Sv<|Zd 2)<|Zd 1
def p8:dN ["script","deck","cell","names","rows","at","behind","text","number","k"] ["script"] (bJ xT):=gB
def ZwP{f:Yy}{fd:lJ}(F:rG K "law" "law" xT f fd)(T:Txt K mg)(je:aY P w K mg base 1 "_law_next" uj gn)(R4:aY P w K mg base 2 "_law_names" uj QZ)(RQ:aY P w K mg base 5 "_law_program" CY Q3)(Mf:aY P w K mg base 4 "_law_bad" yf zW)(RT:aY P w K mg base 69 "_law_refused" C2 Q5):h_ P w K mg base m_ 70 f fd ["script"] (vI K 1 ZpJ):=
  Xf (k:=69) F p8 λj0 A outer s H E hr=>by
    have hu:=gG hr;unfold EO;refine Zh (aZ 1 p8.nd<|bj<|Zc (jb jc (Zd 0) jj<|iM Zk)<|Zc Zk Zg) ?_;refine Zh (aZ 2 p8.nd<|cT je (hr.mono aaA)<|Zc (Zd 1) Zg) ?_;refine Zh (aZ 3 p8.nd<|cT R4 (hr.mono aaA)<|Zc (Zd 1) Zg) ?_;refine Zh ?_ ?_
    refine aZ 4 ?_ ?_;exact p8.nd;refine bw ?_ ?_ ?_;exact bx;refine cT RQ (hr.mono aaA) ?_;refine Zc ?_ ?_;exact Zd 1;refine Zc ?_ ?_;exact Zd 3;refine Zc ?_ ?_;exact dX (id:="min") (WZ J) T.ei WV<|Zc Zk<|Zc (dX (id:="len") fU T.fH fL<|Zc (Zd 0) Zg) Zg;exact Zc Zk Zg;exact Zk;refine Zh ?_ ?_;refine cF ?_ ?_ ?_;exact bF (dR hu) (Zr bY (Zr di (Zd 2) Zk) Zk) Zk;refine Zu ?_;refine aZ 4 ?_ ?_;exact p8.nd;refine Zr ?_ ?_ ?_;exact bW;refine bj ?_;refine Zc ?_ ?_;refine Zr ?_ ?_ ?_;exact bW;exact Zy;refine Gd ?_ ?_;exact Zy;refine Zc ?_ ?_;exact jb jc (Zd 3) jj<|iM<|Zr bW Zk<|Zr bY (Zr di (Zd 2) Zk) Zk;exact Zg;exact Zg;exact Zd 4;exact cL;refine Zh ?_ ?_;refine aZ 5 ?_ ?_;exact p8.nd;refine bw ?_ ?_ ?_;exact bx;refine bj ?_;refine Zc ?_ ?_;exact Zr bY (Zr di (Zd 2) Zk)<|Zr bW (dX (id:="len") fU T.fH fL<|Zc (Zd 4) Zg) Zk;refine Zc ?_ ?_;exact dX (id:="min") (WZ J) T.ei WV<|Zc Zk<|Zc (dX (id:="len") fU T.fH fL<|Zc (Zd 4) Zg) Zg;exact Zg;exact Zr di (Zr bY (Zr di (Zd 2) Zk) Zk) Zk;refine Zh ?_ ?_;refine aZ 4 ?_ ?_;exact p8.nd;refine Zr ?_ ?_ ?_;exact bW;refine Zr ?_ ?_ ?_;exact bW;exact jb jc (Zd 4) jj<|iM<|Zd 5;exact bj<|Zc (cT Mf (hr.mono aaA)<|Zc (Zd 1)<|Zc (Zd 3)<|Zc (zB (dR hu) (Zd 5) Zk) Zg) Zg;exact jb jc (Zd 4) (iM<|Zd 5) jj;refine Zh ?_ ?_;refine cF ?_ ?_ ?_;exact bF (dR hu) (Zr bY (Zd 2) Zk) Zk;refine Zh ?_ ?_;refine aZ 6 ?_ ?_;exact p8.nd;refine Zr ?_ ?_ ?_;exact bW;exact Zr bW (Zd 5) Zk;refine Zr ?_ ?_ ?_;exact bY;exact cT je (hr.mono aaA)<|Zc (Zd 1) Zg;exact Zr vJ (dX (id:="len") fU T.fH fL<|Zc (Zd 4) Zg)<|Zd 5;refine Zu ?_;refine aZ 4 ?_ ?_;exact p8.nd;refine Zr ?_ ?_ ?_;exact bW;refine Zr ?_ ?_ ?_;exact bW;exact jb jc (Zd 4) jj<|iM<|Zd 6;exact bj<|Zc (cT Mf (hr.mono aaA)<|Zc (Zd 1)<|Zc (Zd 3)<|Zc FQ Zg) Zg;exact jb jc (Zd 4) (iM<|Zd 6) jj;exact cL;refine Zh (aZ 7 p8.nd<|bj Zg) ?_;refine Zh (aZ 8 p8.nd Zk) ?_;refine Zh ?_<|Zu<|bU<|cT RT (hr.mono aaA)<|Zc (Gd Zy<|Zc (Zd 7) Zg)<|Zc (Zd 8) Zg;refine JH ?_ ?_ ?_ ?_ ?_;exact rfl;exact rfl;exact Ql T.Mh<|dX (id:="len") fU T.fH fL<|Zc (Zd 4) Zg;exact nC 9 p8.nd;refine Zh ?_ ?_;refine cF ?_ ?_ ?_;refine CW.ct ?_;refine rQ ?_ ?_;exact bF (dR hu) (Zr bY (cT je (hr.mono aaA)<|Zc (Zd 1) Zg) Zk) Zk;exact zE<|bF xG (dX (id:="len") fU T.fH fL<|Zc (Gd Zy<|Zc (Zd 7) Zg) Zg) Zk;exact Zu<|iQ<|lD (Zd 7)<|Zc Zy Zg;exact cL;refine Zh (iQ<|lD (Zd 7)<|Zc (bw bx (Zd 4)<|Zd 9) Zg) ?_;refine Zu ?_;exact cF (bF (dR hu) (Zd 9)<|Zd 5) (Zu<|aZ 8 p8.nd<|dX (id:="len") fU T.fH fL<|Zc (Zd 7) Zg) cL
end
end Law
set_option maxHeartbeats 200000
namespace Law
open L3
abbrev My(x:Nat):Option D:=O<|.ref x
abbrev c8(x:Int):Option D:=O<|.int x
abbrev i5(x:b9):Option D:=O<|.str x
def Zxs(c:Nat):∀(x y a b:b9),c∉x->c∉y->x++c::a=y++c::b->x=y/\a=b:=by
 intro x
 induction x with
 |nil=>
  intro y a b _ hy h;cases y with
  |nil=>exact⟨rfl,(lu h).2⟩|cons q y=>exact k9 (lu h).1 λe=>hy<|e▸Ye ..
 | cons p x ih=>
  intro y a b hx hy h;cases y with
  |nil=>exact k9 (lu h).1 λe=>hx (e▸Ye ..)|cons q y=>let⟨e1,e2⟩:=ih y a b (λz=>hx<|Yf _ z) (λz=>hy<|Yf _ z) (lu h).2;exact⟨by rw[(lu h).1,e1],e2⟩
def sE(s x y:b9)(r:d6):glue s (x::y::r)=x++(s++glue s (y::r)):=by show x++s++glue s (y::r)=_;rw[ju]
def Ztz(c:Nat):∀(ts us:d6),ts≠[]->us≠[]->(∀t∈ts,c∉t)->(∀t∈us,c∉t)->glue [c] ts=glue [c] us->ts=us:=by
 intro ts
 induction ts with
 |nil=>intro us h;exact k9 J h|cons t ts ih=>
  intro us _ hu ft fu h;cases us with
  |nil=>exact k9 J hu|cons u us=>
   have ht:=ft t<|Ye ..;have uv:=fu u<|Ye ..;cases ts with
   | nil=>
    cases us with
    |nil=>rw[show t=u from h]|cons v us=>rw[sE]at h;refine k9 (show c∈t from ?_) ht;rw[show t=_ from h];exact Y2 _<|Ye ..
   | cons w ts=>
    cases us with
    |nil=>rw[sE]at h;refine k9 (show c∈u from ?_) uv;rw[show u=_ from h.symm];exact Y2 _ (Ye ..)|cons v us=>rw[sE,sE]at h;let⟨e1,e2⟩:=Zxs c t u _ _ ht uv h;rw[e1,ih (v::us) nofun nofun (λq hq=>ft q<|Yf _ hq) (λq hq=>fu q<|Yf _ hq) e2]
def IH(x:b9)(c:Nat):glue [c] (pO x [c])=x:=by
 have h:=PySem.StrLaws.join_split (⟨kb x⟩:PySem.Str)<|⟨([c]:b9).toArray⟩;have e:(OG (⟨kb x⟩:PySem.Str) ⟨([c]:b9).toArray⟩)=(pO x [c]).map λt=>(⟨kb t⟩:PySem.Str):=by unfold pO;rw[pC];exact(List.map_id _).symm.trans (KS λt _=>rfl)
 rw[e,YD]at h;have q:=congrArg (λs:PySem.Str=>s.cps.toList) h;simpa using q
def E4(c:Nat)(ts:d6)(h:ts≠[])(hf:∀t∈ts,c∉t):pO (glue [c] ts) [c]=ts:=by
 have hs:∀t∈pO (glue [c] ts) [c],c∉t:=by intro t ht;let⟨p,hp,rfl⟩:=kZ.mp ht;exact PySem.StrLaws.split_free _ c p hp
 refine Ztz c _ _ (λz=>?_) h hs hf<|IH _ c;have q:=IH (glue [c] ts) c;unfold pO at z;have z1:=NK.mp z;have z2:=PyProof.Rows.split_pos (⟨(glue [c] ts).toArray⟩:PySem.Str) ⟨([c]:b9).toArray⟩;rw[z1]at z2;exact k9 z2 aaA
def dH(n:Nat):b9:=(Oc 10 n).map VV
def c4:∀d:Nat,d<10->(Nat.digitChar d).toNat=48+d:=by decide
variable{n:Nat}
def Dd(h:n<10):dH n=[48+n]:=by unfold dH;rw[LF h,Yw,uX,c4 n h]
def K7(h:10<=n):dH n=dH (n / 10)++[48+n % 10]:=by have hm:n % 10<10:=Nat.mod_lt n aaA;have t:Oc 10 (n / 10)++Oc 10 (n % 10)=Oc 10 (10*(n / 10)+n % 10):=Nat.toDigits_append_toDigits aaA b5 hm;rw[Nat.div_add_mod]at t;unfold dH;rw[<-t,fX,LF hm,Yw,uX,c4 _ hm]
def zX(n:Nat):∀c∈dH n,48<=c/\c<=57:=by
 induction n using U9 with
 | _ n ih=>
  by_cases h:n<10
  .rw[Dd h];intro c hc;rw[Yx.mp hc];exact⟨iG _ _,b5⟩
  .rw[K7<|k_ h];intro c hc;rcases gF.mp hc with hc|hc
   .exact ih (n / 10) (Oa λz=>by omega) c hc
   .rw[Yx.mp hc];exact⟨iG _ _,b5⟩
def K8(n:Nat):dH n≠[]:=by
 by_cases h:n<10
 .rw[Dd h];exact nofun
 .rw[K7<|k_ h];exactλz=>k9 (HX.mp z).2 nofun
def K9(k:Nat):∀n:Nat,n<10^(k+1)->B (dH n)<=k+1:=by
 induction k with
 |zero=>intro n h;rw[Dd<|by simpa using h];exact Yu _|succ k ih=>
  intro n h;by_cases q:n<10
  .rw[Dd q];exact Ob 1 _
  .rw[K7<|k_ q,Yd,Y8];have:=ih (n / 10) (by rw[Nat.pow_succ]at h;omega);omega
def ZqZ(n:Nat)(h:0<n):∀r,dH n≠48::r:=by
 induction n using U9 with
 | _ n ih=>
  intro r z;by_cases q:n<10
  .rw[Dd q]at z;have:=(lu z).1;omega
  .rw[K7<|k_ q]at z;cases e:dH (n / 10)with
   |nil=>exact K8 _ e|cons c l=>rw[e]at z;have:=(lu z).1;subst this;exact ih (n / 10) (Oa λz=>by omega) b5 l e
def tx(n:Nat):Im (dH n)=n:=by
 induction n using U9 with
 | _ n ih=>
  by_cases q:n<10
  .rw[Dd q];show 0*10+(48+n-48)=n;exact fY b5 b5
  .rw[K7<|k_ q];have e:Im (dH (n / 10)++[48+n % 10])=Im (dH<|n / 10)*10+(48+n % 10-48):=by
    unfold Im;rw[UJ];rfl
   rw[e,ih (n / 10)<|Oa λz=>by omega];omega
def Q_(n:Nat):i_ (n:Int)=dH n:=by unfold i_ dH;rw[Mo];show(Nat.repr n).toList.map VV=_;rw[LU]
def Ra(n:Nat):i_ (Int.negSucc n)=45::dH (n+1):=by unfold i_ dH;rw[Mo];show("-" ++Nat.repr (n+1)).toList.map VV=_;rw[String.toList_append,fX,LU];rfl
def E6(i:Int)(h:i.natAbs<10^60):MT ⟨(i_ i).toArray⟩=O i/\(i_ i).length<=61/\∀c∈i_ i,45<=c:=by
 cases i with
 |ofNat n=>have hl:=K9 59 n h;have e:i_ (Int.ofNat n)=dH n:=Q_ n;rw[e];refine⟨?_,u0 hl,λc hc=>Yi aaA (zX n c hc).1⟩;have q:=PySem.intText_digits (x:=⟨(dH n).toArray⟩) (zX n) (K8 n) (Yi (show(dH n).toArray.size<=60 by simpa using hl) aaA);rw[q];show O ((Im (dH n):Nat):Int)=_;rw[tx];rfl|negSucc n=>
  have hl:=K9 59 (n+1) h;rw[Ra];refine⟨?_,pD hl,λc hc=>?_⟩
  .have q:=PySem.intText_neg (x:=⟨(45::dH (n+1)).toArray⟩) (cs:=dH<|n+1) J (zX _) (K8 _) (Yi (show(45::dH (n+1)).toArray.size<=61 by simpa using hl) aaA);rw[q,tx];rfl
  .rcases Yo.mp hc with e|hc
   .exact lR e.symm
   .exact Yi aaA (zX _ c hc).1
variable{M M':b3}
def Zr6{d:D}(h:B M'=B M):gj M d M'= .ok d M':=by unfold gj;rw[tL<|lR h];split <;>rfl
def Wt(n d:Nat):aR n d Yj=d:=rfl
def Bp(n d k:Nat):aR n d (O (k:Int))=gw k n:=by have h:¬((k:Int)<0):=(λz=>by omega);simp only[aR,d4 h,u6]
variable{α:Type}
def vY(w:List α)(k:Nat):cutD w (O (k:Int)) Yj=w.drop k:=by
 unfold cutD;rw[Bp,Wt];by_cases h:k<=w.length
 .rw[Et h,tL i9]
 .rw[U7 b5,Ny<|Yu _,Ny b5];simp
def Df(w:List α)(k:Nat):cutD w Yj (O (k:Int))=w.take k:=by
 unfold cutD;rw[Bp,Wt];by_cases h:k<=w.length
 .rw[Et h];simp
 .rw[U7 b5,Nat.sub_zero,Ib,tL<|Yu _,tL b5]
def AeT{i j:Int}(h:-(2^64)<i/\i<2^64):wY i j=true:=by unfold wY;rw[yS];left;simp only[gO,decide_eq_true_eq];exact h
def mul_r{i j:Int}(h:-(2^64)<j/\j<2^64):wY i j=true:=by unfold wY;rw[yS];right;simp only[gO,decide_eq_true_eq];exact h
def fC(x:Int)(m:Nat)(h:0<m):∃a:Nat,x % (m:Int)=a/\a<m:=by have h1:=tX x (b:=(m:Int)) (by exactλz=>by omega);have h2:=wN x (b:=(m:Int)) b5;exact⟨(x % (m:Int)).toNat,(Ii h1).symm,b5⟩
def dm{i j:Int}(h:0<j/\j<1073741824):Zw (.int i) (.int j) M= .ok (.int<|i / j) M:=by simp only[SK,c_ h]
theorem _root_.vE{p:Prop}(h:p:=by exact Zf J J<|dm aaA):p:=h
theorem _root_.r6{p:Prop}(h:p:=by exact Zf (Zf J J<|dm aaA) J<|cg aaA):p:=h
variable{env:bO}{ds:c9}{g:d_}
def bM(h:g env M= .ok ds M')(hl:decide (B ds<=100)=true):Zz g env M= .ok (.ref<|B M') (M'++[.L ds]):=by have z:B ds<=SZ:=Yi (of_decide_eq_true hl) aaA;simp only[Zz,h,R3.bind,c_ z,alloc]
theorem _root_.tw{p:Prop}(h:p:=by exact bM J J):p:=h
variable{xs:c9}
def E7{d:D}{o t:E3}(ho:o env M= .ok (.ref n) M)(hM:M[n]?=O (.L xs))(ht:t env M= .ok d M')(E9:M'[n]?=O (.L xs))(hl:B xs<SZ):
  bC (aU bK cD o<|Za t Ze) env M= .nx env (M'.set n<|.L<|xs++[d]):=by
 have e:aU bK cD o (Za t Ze) env M= .ok .Z (M'.set n<|.L<|xs++[d]):=by simp only[aU,ho,R3.bind,Fw,hM,Za,ht,Ze,WQ,E9,c_ hl,if_true]
 rw[bC,e]
def la{op:D->D->D->b3->R3 D}{f g h:E3}{M M1 M2 M3 M4:b3}{a b c d:D}(h1:f env M= .ok a M1)(h2:g env M1= .ok b M2)(h3:h env M2= .ok c M3)(h4:op a b c M3= .ok d M4):e3 op f g h env M= .ok d M4:=by simp only[e3,h1,h2,h3,h4,R3.bind]
def oX(x:b9):Bool:=decide<|x=tT\/x=va\/x=vb\/x=AJ
def Dg(s:Nat)(b:Nat):∀ts:d6,(∀t∈ts,B t<=b)->j7 [s] ts<=B ts*(b+1)/\(glue [s] ts).length<=B ts*(b+1):=by
 intro ts
 induction ts with
 |nil=>intro _;exact⟨by simp[j7],by simp[glue]⟩|cons t ts ih=>
  intro h;have ht:=h t<|Ye ..;let⟨i1,i2⟩:=ih λq hq=>h q<|Yf _ hq;have e1:j7 [s] (t::ts)=B t+1+j7 [s] ts:=by simp[j7]
  have e3:(B ts+1)*(b+1)=B ts*(b+1)+(b+1):=Nat.succ_mul ..;rw[e1,Yp,e3];refine⟨b5,?_⟩;cases ts with
  |nil=>show B t<=_;omega|cons u ts=>rw[sE,Yd,Yd];show B t+(1+_)<=_;omega
theorem strs_map:∀ts:d6,jB (ts.map D.str)=O ts
 |[]=>rfl|t::ts=>by show(jB<|ts.map D.str).map _=_;rw[strs_map ts];rfl
variable{s:Nat}
def K_{ts:d6}(h:M[n]?=O (.L<|ts.map D.str))(hz:j7 [s] ts<=SZ):nu (.str [s]) [.ref n] M= .ok (.str<|glue [s] ts) M:=by simp only[W4,h,strs_map,c_ hz]
def sG{m:D->c9->b3->R3 D}{o g:E3}{M M1 M2:b3}{x:b9}{d r:D}(h1:o env M= .ok (.str x) M)(h2:g env M= .ok d M1)(h3:m (.str x) [d] M1= .ok r M2):aU fQ m o (Za g Ze) env M= .ok r M2:=by simp only[aU,h1,R3.bind,Zyi,if_true,Za,h2,Ze,h3]
def p0{i:Int}(h:i.natAbs<10^60):B (i_ i)<=61:=(E6 i h).2.1
def ZwH{i:Int}(h:i.natAbs<10^60):i.natAbs.log2<1920:=by
 by_cases z:i.natAbs=0
 .rw[z];decide
 .exact(Nat.log2_lt z).mpr (mX h aaE)
abbrev vZ:b9:=EJ
def in_str(c:Nat)(y:b9)(M:b3):ni (.str [c]) (.str y) M= .ok (.bl<|decide<|c∈y) M:=rfl
def all_map{p:α->Bool}{l:List α}(h:M[n]?=O (.L<|l.map λc=>D.bl<|p c)):uc [.ref n] M= .ok (.bl<|l.all p) M:=by
 have a:∀l:List α,(l.map λc=>D.bl<|p c).all Jo=true/\(l.map λc=>D.bl<|p c).all Ft=l.all p:=by
  intro l
  induction l with
  |nil=>exact⟨rfl,rfl⟩|cons x l ih=>exact⟨by simp only[Yw,lQ,Jo,ih.1,Bool.and_self],by rw[Yw,lQ,lQ,ih.2];cases p x<;>rfl⟩
 simp only[Fv,h,allB,(a l).1,(a l).2,if_true]
def Fc{w fs:b9}(h1:1<=B fs)(h2:B fs<=60)(h3:∀r,fs≠48::r):
  (Zt (aG (dh iA kM) (aM<|eC<|.bl false) aW)<|Zt eh fA) [i5 w,i5 fs] M= .rt (.bl<|fs.all λc=>decide<|c∈vZ) (M++[.L<|fs.map λc=>D.bl<|decide<|c∈vZ]):=by
 have hz:B fs<=SZ:=Yi h2 aaA;have ln:mM [i5 w,i5 fs] M= .ok (.int<|B fs) M:=bR (a:=.str fs) J (by simp only[Bx,BJ,BK,t_,c_ hz]);have c1:(dh iA kM) [i5 w,i5 fs] M= .ok (.bl false) M:=by rw[iZ (M1:=M)<|Zf ln J (by simp only[mq];rw[j3<|by exactλz=>by omega])];exact Zf ln (g:=qm) (b:=.int 60) J (by simp only[j6];rw[j3<|by exactλz=>by omega])
 have c2:ja [i5 w,i5 fs] M= .ok (.bl false) M:=by
  refine sG (d:=.str [48]) J J ?_;cases fs with
  |nil=>exact k9 h1 (by decide)|cons c r=>
   have q:¬48=c:=λe=>h3 r (by rw[e]);have e:([48]:b9).isPrefixOf (c::r)=false:=by show((48==c)&&N5 [] r)=false;rw[beq_eq_false_iff_ne.mpr q];rfl
   simp only[BL];rw[c_ ⟨hz,aaA⟩,e]
 rw[Zi<|cZ c1,Zi<|cZ c2];have hi:(eG<|Zb 1) [i5 w,i5 fs] M= .ok ⟨fs.map λc=>D.str [c],Yj⟩ M:=by simp only[eG,Zb,Nv,Nx,R3.bind,c_ hz]
 have lc:=ug (h:=λc=>D.bl<|decide<|c∈vZ) (own:=1) (i:=2) (elt:=(e2 ni (Zb 2) v_)) hi nofun
  (λc hc M'=>Zf (a:=.str [c]) (b:=.str vZ) J J<|in_str c vZ M') (Yi h2 aaA)
 exact b7<|bR lc<|all_map<|Zm _ _ _
variable{c:Nat}
def Zyn(h:48<=c/\c<=57):c∈vZ:=(KU:c∈tR 48 10↔_).mpr ⟨h.1,N_ h.2⟩
def K'{i:Int}(h:i.natAbs<10^60)(M:b3):mD [.str<|i_ i] M= .ok (.bl true) M:=by
 have go:∀(n:Nat) (w:b9),0<n->n<10^60->(j5 iX kS<|Zb 0) [i5 w,Yj] M= .ok (.str<|dH n) M->mD [.str w] M= .ok (.bl true) M:=λn w h0 h1 hf=>by
  refine Rt.pure (G:=[.L<|(dH n).map λc=>D.bl<|decide<|c∈vZ]) (env:=[i5 w,Yj]) ?_ J;unfold Gq;rw[Zi<|Zq hf];refine(Fc ?_ (K9 59 n h1)<|ZqZ n h0).trans (by rw[jh.mpr λc hc=>j2<|Zyn<|zX n c hc]);cases e:dH n with
  |nil=>exact k9 e (K8 n)|cons _ _=>exact Ob 1 _
 cases i with
 | ofNat n=>
  have e:i_ (Int.ofNat n)=dH n:=Q_ n;have hp:(j5 iX kS<|Zb 0) [i5<|dH n,Yj] M= .ok (.str<|dH n) M:=by
   rw[xj (M1:=M)]
   .rfl
   .refine sG (d:=.str [45]) J J ?_;have hl:=K9 59 n h;have e:([45]:b9).isPrefixOf (dH n)=false:=by
     cases q:dH n with
     |nil=>rfl|cons c r=>have Aa5:=zX n c (by rw[q];exact Ye ..);show((45==c)&&N5 [] r)=false;rw[beq_eq_false_iff_ne.mpr<|by exactλz=>by omega];rfl
    simp only[BL];rw[c_ ⟨Yi hl aaA,aaA⟩,e]
  rw[e];by_cases z:n=0
  .subst z;refine Rt.pure (G:=[]) (env:=[i5<|dH 0,Yj]) ?_ J;rw[iD];unfold Gq;rw[Zi<|Zq hp,Dd aaA];simp[Zt,aG,aM,aW,qm]
  .exact go n _ (LJ z) h hp
 | negSucc n=>
  rw[Ra];have hl:=K9 59 (n+1) h;refine go (n+1) _ (Nat.succ_pos n) h ?_;rw[zu (M1:=M)]
  .have e:cutD (45::dH (n+1)) (O 1) Yj=dH (n+1):=vY (45::dH (n+1)) 1;have hz:B (45::dH (n+1))<=SZ:=Yi (pD hl) aaA;simp only[bf,Zb,aX,bh,eC,R3.bind,Nx,Fo,Fp,Bw,zm,c_ hz,e]
  .refine sG (d:=.str [45]) J J ?_;have hz:B (45::dH (n+1))<=SZ:=Yi (pD hl) aaA;simp only[BL];rw[c_ ⟨hz,aaA⟩];rfl
def e6{x:b9}(h1:1<=B x)(h2:B x<=60)(h3:∀c∈x,97<=c)(M:b3):mD [.str x] M= .ok (.bl false) M:=by
 have hz:B x<=SZ:=Yi h2 aaA;obtain⟨c,r,rfl⟩:∃c r,x=c::r:=by
  cases x with
  |nil=>exact k9 h1 (by decide)|cons c r=>exact⟨c,r,rfl⟩
 have hc:97<=c:=h3 c Ye;have hp:(j5 iX kS<|Zb 0) [i5<|c::r,Yj] M= .ok (.str<|c::r) M:=by
  rw[xj (M1:=M)]
  .rfl
  .refine sG (d:=.str [45]) J J ?_;have e:([45]:b9).isPrefixOf (c::r)=false:=by
    show((45==c)&&N5 [] r)=false;rw[beq_eq_false_iff_ne.mpr<|by exactλz=>by omega];rfl
   simp only[BL];rw[c_ ⟨hz,aaA⟩,e]
 refine Rt.pure (G:=[.L<|(c::r).map λc=>D.bl<|decide<|c∈vZ]) (env:=[i5<|c::r,Yj]) ?_ J;unfold Gq;rw[Zi<|Zq hp];refine(Fc h1 h2 (λq e=>by have:=(lu e).1;omega)).trans ?_;have hn:decide (c∈vZ)=false:=j3 λz=>by simp only[Yo,rm,or_false]at z;omega
 rw[lQ,hn,yU]
def eq_str(a b:b9)(M:b3):aN (.str a) (.str b) M= .ok (.bl<|decide<|a=b) M:=by simp only[aN,Bt,rH,vy,Ji,Jj]
def mF(w:b9):b9:=match w with
 |45::r=>r|w=>w
def zY(w:b9):Bool:=(decide (1<=B (mF w))&&decide (B (mF w)<=60))&&(if(mF w).head?=O 48 then decide (w=[48])else(mF w).all λc=>decide<|c∈vZ)
def ZtH(w:b9):B (mF w)<=B w:=by
 unfold mF;split
 .exact tU _
 .exact Yu _
def z6(c:Nat)(w:b9):([c]:b9).isPrefixOf w=decide (w.head?=O c):=by
 cases w with
 |nil=>rfl|cons d r=>
  show((c==d)&&N5 [] r)=_;by_cases h:c=d
  .subst h;simp
  .have:decide ((d::r).head?=O c)=false:=j3 λz=>h (fM z).symm;rw[beq_eq_false_iff_ne.mpr h,this];rfl
def Zqw{w:b9}(hw:B w<=1000)(M:b3):mD [.str w] M= .ok (.bl<|zY w) M:=by
 have hz:B w<=SZ:=Yi hw aaA;have hf:(j5 iX kS<|Zb 0) [i5 w,Yj] M= .ok (.str<|mF w) M:=by
  have c:iX [i5 w,Yj] M= .ok (.bl<|decide<|w.head?=O 45) M:=by refine sG (d:=.str [45]) J J ?_;simp only[BL];rw[c_ ⟨hz,aaA⟩,z6]
  by_cases h:w.head?=O 45
  .rw[j2 h]at c;rw[zu (M1:=M) c];cases w with
   |nil=>cases h|cons d r=>obtain rfl:d=45:=fM h;have e:cutD (45::r) (O 1) Yj=r:=vY (45::r) 1;simp only[bf,Zb,aX,bh,eC,R3.bind,Nx,Fo,Fp,Bw,zm,c_ hz,e];rfl
  .rw[j3 h]at c;rw[xj (M1:=M) c];have e:mF w=w:=by
    unfold mF;split
    .exact k9 J h
    .rfl
   rw[e];rfl
 have hl:=Yi (ZtH w) hz;have ln:mM [i5 w,i5<|mF w] M= .ok (.int<|B<|mF w) M:=bR (a:=.str<|mF w) J (by simp only[Bx,BJ,BK,t_,c_ hl]);have no:∀G b,(Zt (aG (dh iA kM) (aM<|eC<|.bl false) aW)<|Zt eh fA) [i5 w,i5<|mF w] M= .rt (.bl b) (M++G)->zY w=b->mD [.str w] M= .ok (.bl<|zY w) M:=λG b h e=>by rw[e];refine Rt.pure (G:=G) (env:=[i5 w,Yj]) ?_ J;unfold Gq;exact(Zi<|Zq hf).trans h
 by_cases h1:1<=B (mF w)
 .have l1:iA [i5 w,i5<|mF w] M= .ok (.bl false) M:=Zf ln J (by simp only[mq];rw[j3 b5]);by_cases h2:B (mF w)<=60
  .by_cases h3:(mF w).head?=O 48
   .refine no [] (decide<|w=[48]) ?_ (by unfold zY;rw[j2 h1,j2 h2,c_ h3];rfl);rw[iD];refine(Zi<|cZ<|(iZ l1).trans<|Zf ln (g:=qm) (b:=.int 60) J (by simp only[j6];rw[j3 b5])).trans (iK<|(cO<|sG (d:=.str [48]) J J ?_).trans<|b7<|Zf J J<|eq_str _ _ _);simp only[BL];rw[c_ ⟨hl,aaA⟩,z6,j2 h3]
   .refine no _ _ (Fc h1 h2 λr e=>h3 (by rw[e];rfl)) (by unfold zY;rw[j2 h1,j2 h2,d4 h3];rfl)
  .refine no [] false ?_ (by unfold zY;rw[j3 h2,mj];rfl);rw[iD];exact iK ((cO<|(iZ l1).trans<|Zf ln (g:=qm) (b:=.int 60) J (by simp only[j6];rw[j2 b5])).trans J)
 .refine no [] false ?_ (by unfold zY;rw[j3 h1];rfl);rw[iD];exact iK ((cO<|pM<|Zf ln J (by simp only[mq];rw[j2 b5])).trans J)
inductive Sm where
 |num (i:Int)|eQ (x:b9)|j8 (a:Sm)|two (o:Nat) (a b:Sm)
abbrev jk:b9:=AJ
def zZ:Nat->b9
 |0=>tT|1=>va|_=>vb
def Sm.flat:Sm->c9
 | .num i=>[.int i]|.eQ x=>[.str x]|.j8 a=>.str jk::a.flat|.two o a b=>.str (zZ o)::(a.flat++b.flat)
def Sm.good:Sm->Prop
 | .num _=>True|.eQ x=>oX x=false|.j8 a=>a.good|.two _ a b=>a.good/\b.good
def Sm.all(Q:b9->Prop):Sm->Prop
 | .num _=>True|.eQ x=>Q x|.j8 a=>a.all Q|.two _ a b=>a.all Q/\b.all Q
def Sm.parts:Sm->List Sm
 | .num _=>[]|.eQ _=>[]|.j8 a=>[a]|.two _ a b=>[a,b]
def Sm.head:Sm->D
 | .num i=>.int i|.eQ x=>.str x|.j8 _=>.str jk|.two o _ _=>.str<|zZ o
def Sm.Mi(t:Sm):t.flat=t.head::(t.parts.map Sm.flat).flatten:=by cases t<;>simp[Sm.flat,Sm.head,Sm.parts]
def ar:D->Nat
 | .str x=>if x=jk then 1 else if oX x=true then 2 else 0|_=>0
inductive sH:D->Prop
 |int (i:Int):sH (.int i)
 |str (x:b9):sH (.str x)
theorem La:∀(t:Sm),∀d∈t.flat,sH d
 | .num i,d,h=>by rw[Yx.mp h];exact .int i|.eQ x,d,h=>by rw[Yx.mp h];exact .str x|.j8 a,d,h=>by
  rcases Yo.mp h with h|h
  .rw[h];exact .str _
  .exact La a d h
 | .two o a b,d,h=>by
  rcases Yo.mp h with h|h
  .rw[h];exact .str _
  .rcases gF.mp h with h|h
   .exact La a d h
   .exact La b d h
def K6(x:b9):cQ x qU=if x=tT then O 2 else if x=va then O 2 else if x=vb then O 2 else if x=jk then O 1 else Yj:=rfl
def Zxy{w:D}(h:sH w)(M:b3):xu qU w (.int 0) M= .ok (.int (ar w:Nat)) M:=by
 cases h with
 |int i=>rfl|str x=>
  show(match cQ x qU with|some i=>R3.ok (D.int i) M|none=>R3.ok (D.int 0) M)=_;rw[K6];by_cases h1:x=tT
  .subst h1;rfl
  by_cases h2:x=va
  .subst h2;rfl
  by_cases h3:x=vb
  .subst h3;rfl
  by_cases h4:x=jk
  .subst h4;rfl
  have:oX x=false:=j3 λz=>z.elim h1 λz=>z.elim h2 λz=>z.elim h3 h4;simp only[d4 h1,d4 h2,d4 h3,d4 h4,ar,this];rfl
def qB(s:sA×Nat)(w:D):sA×Nat:=
 let s:=if s.2=0 then(s.1++[[]],1)else s
 (s.1.dropLast++[s.1.getLastD []++[w]],s.2-1+ar w)
def z_(ds:sA)(cur:c9)(l:Nat)(w:D):qB (ds++[cur],l+1) w=(ds++[cur++[w]],l+ar w):=by simp[qB]
def Rb(ds:sA)(w:D):qB (ds,0) w=qB (ds++[[]],0+1) w:=by simp[qB]
theorem Rc:∀(t:Sm),t.good->∀(ds:sA) (cur:c9) (l:Nat) (r:c9),(t.flat++r).foldl qB (ds++[cur],l+1)=r.foldl qB (ds++[cur++t.flat],l)
 | .num i,_,ds,cur,l,r=>by simp only[Sm.flat,yL,jw,rA,z_];rfl|.eQ x,h,ds,cur,l,r=>by
  have e:ar (.str x)=0:=by
   have h:oX x=false:=h;have h':x≠jk:=λz=>by subst z;exact k9 h aaA
   simp only[ar,d4 h',h];rfl
  simp only[Sm.flat,yL,jw,rA,z_,e,Od]
 | .j8 a,h,ds,cur,l,r=>by have e:ar (.str jk)=1:=rfl;simp only[Sm.flat,yL,rA,z_,e,Rc a h,ju,jw]|.two o a b,h,ds,cur,l,r=>by
  have e:ar (.str<|zZ o)=2:=by
   match o with
   |0=>rfl|1=>rfl|_+2=>rfl
  have e2:l+2=l+1+1:=rfl;simp only[Sm.flat,yL,rA,z_,e,ju,e2,Rc a h.1,Rc b h.2,jw]
def Gy(t:Sm):∃w r,t.flat=w::r:=⟨_,_,t.Mi⟩
def Zt9(t:Sm)(h:t.good)(ds:sA)(r:c9):(t.flat++r).foldl qB (ds,0)=r.foldl qB (ds++[t.flat],0):=by let⟨w,q,e⟩:=Gy t;have h1:=Rc t h ds [] 0 r;rw[jw]at h1;rw[<-h1,e,yL,rA,rA,Rb]
theorem Rf:∀(ts:List Sm),(∀t∈ts,t.good)->∀ds,(ts.map Sm.flat).flatten.foldl qB (ds,0)=(ds++ts.map Sm.flat,0)
 |[],_,ds=>by simp|t::ts,h,ds=>by rw[Yw,q_,Zt9 t<|h t Ye,Rf ts λt ht=>h t<|Yf _ ht];simp
def nG(n j:Nat):c9:=(jO j).map λk=>D.ref<|n+1+k
def eU(M:b3)(done:sA):b3:=M++ .L (nG (B M)<|B done)::done.map MO.L
def lT(M:b3)(done:sA):B (eU M done)=B M+1+B done:=by simp only[eU,Yd,Yp,Ym];exact fY b5 b5
def Lb(M:b3)(done:sA):(eU M done)[B M]?=O (.L<|nG (B M)<|B done):=Zm _ _ _
def gL(M:b3)(done:sA)(k:Nat):(eU M done)[B M+1+k]?=(done[k]?).map MO.L:=by rw[eU,u5,qK,l_ 1 k,Nv,jg]
def K0(n j:Nat):nG n (j+1)=nG n j++[D.ref<|n+1+j]:=by simp[nG,List.range_succ]
def ZvJ(M:b3)(done:sA):(eU M done++[MO.L []]).set (B M) (MO.L<|nG (B M) (B done)++[D.ref<|B<|eU M done])=eU M (done++[[]]):=by have h:=Qe M (MO.L (nG (B M)<|B done)::done.map MO.L++[MO.L []]) 0<|MO.L<|nG (B M) (B done)++[D.ref<|B<|eU M done];rw[Od]at h;rw[lT]at h |-;rw[eU,ju,h,eU,Yd,Y8,K0];simp
def ZtZ(M:b3)(ds:sA)(cur:c9)(w:D):(eU M<|ds++[cur]).set (B M+1+B ds) (MO.L<|cur++[w])=eU M (ds++[cur++[w]]):=by rw[eU,u5,Qe,eU];simp[l_ 1]
def P0{α:Type}{enc h:α->D}{it:ir}{g:G3}{n:Nat}{elt:E3}{I:bO->Prop}{M:b3}:∀(as:List α) (acc:c9) (env:bO),I env ->
  (∀a∈as,∀env,I env->∃eY,g (enc a) env=O eY/\I eY/\∀x,elt eY (M.set n<|.L x)= .ok (h a) (M.set n<|.L x))->(∀x,locked it (M.set n<|.L x)=true)->n<B M->B acc+B as<=SZ ->
  jR it g [] elt n (as.map enc) env (M.set n<|.L acc)= .ok (.ref n) (M.set n<|.L<|acc++as.map h)
 |[],acc,env,_,_,hl,_,_=>by simp only[uX,WY,hl,if_true,iD]|a::as,acc,env,hI,hf,hl,hn,hz=>by
  let⟨eY,hg,hI1,he⟩:=hf a Ye env hI;have gt:(M.set n<|.L acc)[n]?=O (.L acc):=by simp[hn]
  have lt:B acc<SZ:=by simp only[Yp]at hz;omega
  have ih:=P0 as (acc++[h a]) eY hI1 (λb hb=>hf b<|Yf _ hb) hl hn (by simp only[Yd,Yp,Er]at hz |-;omega);simp only[Yw,Qd,hl,if_true,hg,Js,Jt,R3.bind,he,gt,lt,Ie];rw[ih];simp
def Fh{enc h:α->D}{own:Nat}{i:I3}{g:G3}{elt:E3}{M M1:b3}{lock:Option Nat}{as:List α}(I:bO->Prop)(hi:i env M= .ok ⟨as.map enc,lock⟩ M1)(SJ:∀n,lock=O n->M1[n]?=O (.L<|as.map enc))(hI:I (env++Yq own Yj))(hf:∀a∈as,∀env,I env->∃eY,g (enc a) env=O eY/\I eY/\∀x,elt eY (M1++[.L x])= .ok (h a) (M1++[.L x]))(hz:B as<=100000):
  gU i own g [] elt env M= .ok (.ref<|B M1) (M1++[.L<|as.map h]):=by
 have st:∀x:c9,(M1++[MO.L []]).set (B M1) (.L x)=M1++[.L x]:=λx=>by simp
 rw [W2 hi];have:=P0 (enc:=enc) (h:=h) (it:=⟨as.map enc,lock⟩) (g:=g) (n:=B M1) (elt:=elt) (I:=I) (M:=M1++[.L []]) as [] (env++Yq own Yj) hI
  (λa ha e he=>by let⟨e1,h1,h2,h3⟩:=hf a ha e he;exact⟨e1,h1,h2,λx=>by rw[st];exact h3 x⟩)
  (λx=>by
   rw[st];cases lock with
   |none=>rfl|some n=>simp only[locked,decide_eq_true_eq];exact Zj (SJ n J) _) i9 r0
 rw[st,st]at this;simpa using this
def ZoI{x:c9}(h:M[n]?=O (.L x)):iy [.ref n] M= .ok (.U x) M:=by simp[h]
abbrev Fm:S3:=Zt dn bX
def Zqq(n j:Nat):B (nG n j)=j:=by simp[nG]
def p_{M M' M2:b3}{d:D}{o t:E3}(ho:o env M= .ok (.ref n) M')(hM:M'[n]?=O (.L xs))(ht:t env M'= .ok d M2)(E9:M2[n]?=O (.L xs))(hl:B xs<SZ):
  bC (aU bK cD o<|Za t Ze) env M= .nx env (M2.set n<|.L<|xs++[d]):=by
 have e:aU bK cD o (Za t Ze) env M= .ok .Z (M2.set n<|.L<|xs++[d]):=by simp only[aU,ho,R3.bind,Fw,hM,Za,ht,Ze,WQ,E9,c_ hl,if_true]
 rw[bC,e]
def k8(M:b3)(ds:sA)(cur:c9)(l:Nat)(w W:D)(hw:sH w)(h1:B ds<1000)(h2:B cur<1000):
  bX [O W,My<|B M,c8 ((l+1:Nat):Int),O w] (eU M<|ds++[cur])
   = .nx [O W,My<|B M,c8 ((l+ar w:Nat):Int),O w] (eU M<|ds++[cur++[w]]):=by
 have hr:nG (B M) (B<|ds++[cur])=nG (B M) (B ds)++[.ref<|B M+1+B ds]:=by rw[Yd,Y8,K0]
 have ze:(eU M<|ds++[cur])[B M+1+B ds]?=O (.L cur):=by rw[gL];simp
 refine(Zi<|p_ (M':=eU M<|ds++[cur]) (Zf J Au<|dO (Lb M _) (by rw[hr];exact getD_last _ _)) ze J ze<|mX h2 aaA).trans ?_;rw[ZtZ];refine Zq<|Zf yz (Zf J J<|Zxy hw _) ?_;rw[oF];congr 2;exact tW b5 b5
def Zqu(M:b3)(done:sA)(l:Nat)(w W:D)(hw:sH w)(h1:B done<900)(h2:∀c∈done,B c<900)(hn:l≠0->done≠[]):
  Fm [O W,My<|B M,c8 (l:Int),O w] (eU M done)= .nx [O W,My<|B M,O<|.int ((qB (done,l) w).2:Nat),O w] (eU M (qB (done,l) w).1):=by
 cases l with
 |zero=>
  rw[Rb,z_];have hz:B (nG (B M)<|B done)<SZ:=by rw[Zqq];exact mX h1 aaA
  show Zt _ _ _ _=_;refine(Zi<|(cO<|Zf J J<|nq J).trans<|(Zi<|E7 J (Lb M done) tw (Zj (Lb M done) _) hz).trans<|Zq (d:=.int 1) J).trans ?_;rw[ZvJ];exact k8 M done [] 0 w W hw b5 i9
 |succ l=>have hd:=hn (λz=>by omega);have e:done=done.dropLast++[done.getLast hd]:=(Kn hd).symm;generalize done.dropLast=ds at e;generalize done.getLast hd=cur at e;subst e;rw[z_];show Zt _ _ _ _=_;refine(Zi<|cZ<|Zf J J<|pK λz=>by omega).trans ?_;exact k8 M ds cur l w W hw (by simp at h1;omega) (by have:=h2 cur i9;omega)
def Fn(s:sA×Nat)(w:D):(qB s w).1.length<=B s.1+1/\(qB s w).1≠[]:=by
 unfold qB;by_cases h:s.2=0
 .simp[h]
 .simp[h]
def Zvd(s:sA×Nat)(w:D)(k:Nat)(h:∀c∈s.1,B c<=k):∀c∈(qB s w).1,B c<=k+1:=by
 have key:∀x:sA,(∀c∈x,B c<=k)->∀c∈x.dropLast++[x.getLastD []++[w]],B c<=k+1:=by
  intro x hx c hc;rcases gF.mp hc with hc|hc
  .exact u0<|hx c<|Uu _ hc
  .rw[Yx.mp hc,Yd,Y8];refine pD ?_;cases x with
   |nil=>exact g_ _|cons a x=>exact hx _ (by rw[List.getLastD_cons];exact(show(x.getLastD a)∈a::x by rw[List.getLastD_eq_getLast?];cases wd:x.getLast? with|none=>simp|some y=>exact Yf _<|List.mem_of_getLast? wd))
 unfold qB;by_cases hs:s.2=0
 .simp only[hs,if_true];exact key _ λc hc=>by
   rcases gF.mp hc with hc|hc
   .exact h c hc
   .rw[Yx.mp hc];exact g_ _
 .simp only[hs,if_false];exact key _ h
def c5(M:b3)(W:D)(ws:c9)(hw:∀w∈ws,sH w)(hl:B ws<=500)(x0:Option D)(it:ir)(hi:∀done,locked it (eU M done)=true):
  ∃x,iz it (cV 3) Fm ws [O W,My<|B M,c8 0,x0] (eU M [])= .nx [O W,My<|B M,O<|.int ((ws.foldl qB ([],0)).2:Nat),x] (eU M (ws.foldl qB ([],0)).1):=by
 have main:∀(ws:c9) (done:sA) (l k:Nat) (x0:Option D),(∀w∈ws,sH w)->k+B ws<=500->B done<=k->(∀c∈done,B c<=k)->(l≠0->done≠[]) ->
   ∃x,iz it (cV 3) Fm ws [O W,My<|B M,c8 (l:Int),x0] (eU M done)= .nx [O W,My<|B M,O<|.int ((ws.foldl qB (done,l)).2:Nat),x] (eU M (ws.foldl qB (done,l)).1):=by
  intro ws
  induction ws with
  |nil=>intro done l k x0 _ _ _ _ _;exact⟨x0,by rw[w6,c_<|hi _];rfl⟩|cons w ws ih=>intro done l k x0 hw hk h1 h2 hn;rw[Yp]at hk;let⟨x,hx⟩:=ih (qB (done,l) w).1 (qB (done,l) w).2 (k+1) (O w) (λy hy=>hw y<|Yf _ hy) b5 (by have:=(Fn (done,l) w).1;simp only at this;omega) (Zvd (done,l) w k h2) λ_=>(Fn (done,l) w).2;refine⟨x,?_⟩;rw[rK,c_<|hi _];have:=Zqu M done l w W (hw w Ye) b5 (λc hc=>by have:=h2 c hc;omega) hn;simp only[cV,qx,qy,this];exact hx
 exact main ws [] 0 0 x0 hw b5 (g_ _) (λc hc=>by cases hc) λh=>k9 J h
def eF(M:b3)(ts:List Sm)(hg:∀t∈ts,t.good)(hl:(ts.map Sm.flat).flatten.length<=500){W:D}{it:ir}(hit:it.items=(ts.map Sm.flat).flatten)(hi:∀done,locked it (eU M done)=true)(hv:eG (Zb 0) [O W,My<|B M,c8 0,Yj] (eU M [])= .ok it (eU M [])):∃G k,xP [W] M= .ok (.ref<|B M+k) (M++G)/\G[k]?=O (.L<|ts.map λt=>.U t.flat):=by
 have hws:∀w∈(ts.map Sm.flat).flatten,sH w:=λw hw=>by let⟨l,h1,h2⟩:=Ll.mp hw;let⟨t,_,rfl⟩:=kZ.mp h1;exact La t w h2
 let⟨x,hx⟩:=c5 M W _ hws hl Yj it hi;rw[Rf ts hg]at hx;simp only[jw]at hx;have hn:B (ts.map Sm.flat)<=100000:=by
  have:∀l:List Sm,B (l.map Sm.flat)<=(l.map Sm.flat).flatten.length:=by
   intro l
   induction l with
   |nil=>exact Yu _|cons t l ih=>rw[Yw,q_,Yd,Yp];let⟨w,r,e⟩:=Gy t;rw[e,Yp];omega
  have:=this ts;omega
 let S:=eU M<|ts.map Sm.flat
 have lc:gU (eG<|Zb 1) 1 (cV 4) [] mP [O W,My<|B M,c8 ((0:Nat):Int),x] S= .ok (.ref<|B S) (S++[.L<|(jO<|B<|ts.map Sm.flat).map λk=>D.U<|(ts.map Sm.flat).getD k []]):=by
  refine Fh (enc:=λk=>D.ref<|B M+1+k) (h:=λk=>D.U<|(ts.map Sm.flat).getD k []) (as:=jO<|B<|ts.map Sm.flat) (M1:=S) (lock:=O<|B M) (λe=>∃a b c d y,e=[a,b,c,d,y]) ?_ ?_ ⟨_,_,_,_,_,rfl⟩ ?_ (by rwa[UG])
  .show(R3.ok (D.ref<|B M) S).bind _=_;simp only[R3.bind];rw[show S[B M]?=_ from Lb M _];rfl
  .intro n AM;cases AM;exact Lb M _
  .intro k hk env ⟨a,b,c,d,y,e⟩;subst e;have hk:=U0.mp hk;refine⟨_,rfl,⟨_,_,_,_,_,rfl⟩,λz=>?_⟩;refine bR J ?_;refine(ZoI (x:=(ts.map Sm.flat).getD k [])<|Zj ?_ _);rw[gL,Y0 hk,HW,Y0 hk];rfl
 have BO:((jO<|B<|ts.map Sm.flat).map λk=>D.U<|(ts.map Sm.flat).getD k [])=ts.map λt=>D.U t.flat:=by
  apply Eo;intro j;rw[jg,jg];by_cases hj:j<ts.length
  .rw[List.getElem?_range (by simpa using hj),Y0 hj];simp[HW,jg,Y0 hj]
  .rw[Nz (by simpa using hj),Nz<|by simpa using hj];rfl
 rw[BO]at lc;have hS:S=M++(.L (nG (B M)<|B<|ts.map Sm.flat)::(ts.map Sm.flat).map MO.L):=rfl;refine⟨(.L (nG (B M)<|B<|ts.map Sm.flat)::(ts.map Sm.flat).map MO.L)++[.L<|ts.map λt=>.U t.flat],1+B (ts.map Sm.flat),?_,?_⟩
 .have hlen:B S=B M+(1+B (ts.map Sm.flat)):=by rw[lT,u5]
  refine(jT (M':=S++[.L<|ts.map λt=>.U t.flat]) (d:=.ref<|B S) (env:=[O W,Yj,Yj,Yj]) ?_).trans ?_
  .unfold QV;rw[Zi<|Zq (d:=.ref<|B M) (M':=eU M []) tw,Zi<|Zq (d:=.int 0) J,Zi<|(BP (it:=it) hv).trans<|by rwa[hit]];exact b7<|(zu<|Zf J J<|nq J).trans lc
  .have hb:below (B M) (.ref<|B S)=false:=by show decide (B S<B M)=false;rw[hlen];exact j3 (λz=>by omega)
   rw[gj,hb,hlen,hS,ju];rfl
 .simp[l_ 1]
def Zo1(M:b3)(ts:List Sm)(hg:∀t∈ts,t.good)(hl:(ts.map Sm.flat).flatten.length<=500):∃G k,xP [.U (ts.map Sm.flat).flatten] M= .ok (.ref<|B M+k) (M++G)/\G[k]?=O (.L<|ts.map λt=>.U t.flat):=eF M ts hg hl (it:=⟨(ts.map Sm.flat).flatten,Yj⟩) J (λ_=>rfl) J
def Zny(M:b3)(ts:List Sm)(hg:∀t∈ts,t.good)(hl:(ts.map Sm.flat).flatten.length<=500)(hn:M[n]?=O (.L (ts.map Sm.flat).flatten)):∃G k,xP [.ref n] M= .ok (.ref<|B M+k) (M++G)/\G[k]?=O (.L<|ts.map λt=>.U t.flat):=by have hS:∀done,(eU M done)[n]?=O (.L (ts.map Sm.flat).flatten):=λdone=>Zj hn _;refine eF M ts hg hl (it:=⟨(ts.map Sm.flat).flatten,O n⟩) J (λdone=>j2<|hS done) ?_;show(R3.ok (D.ref n)<|eU M []).bind _=_;simp only[R3.bind];rw[hS []]
def Ztr(M:b3)(t:Sm)(hg:t.good)(hl:B t.flat<=500):∃G k,QW [.U t.flat] M= .ok (.ref<|B M+k) (M++G)/\G[k]?=O (.L<|t.parts.map λt=>.U t.flat):=by
 have hgp:∀s∈t.parts,s.good:=by
  cases t with
  |num _=>intro s h;cases h|eQ _=>intro s h;cases h|j8 a=>intro s h;rwa[Yx.mp h]|two o a b=>
   intro s h;rcases Yo.mp h with h|h
   .rw[h];exact hg.1
   .rw[Yx.mp h];exact hg.2
 have e:=t.Mi;have xf:(t.parts.map Sm.flat).flatten.length<=500:=by rw[e,Yp]at hl;omega
 let⟨G,k,h1,h2⟩:=Zo1 M t.parts hgp xf;refine⟨G,k,?_,h2⟩;refine(jT (M':=M++G) (d:=.ref<|B M+k) (env:=[O<|.U t.flat]) ?_).trans ?_
 .unfold ZW;refine b7<|dD (M1:=M) (a:=.U (t.parts.map Sm.flat).flatten) ?_ h1;show R3.ok (D.U<|cutD t.flat (O ((1:Nat):Int)) Yj) M=_;rw[vY,e];rfl
 .have hb:below (B M) (.ref<|B M+k)=false:=j3 (λz=>by omega);rw[gj,hb];rfl
def Sm.dp:Sm->Nat
 | .num _=>1|.eQ _=>1|.j8 a=>a.dp|.two _ a b=>max a.dp<|b.dp+1
def mG:Nat->List Sm->List Int
 |_,[]=>[]|k,t::r=>((t.dp+k:Nat):Int)::mG (k+1) r
def Ld{lk:List (Nat×c9)}(h:lA lk M=true)(G:b3):lA lk (M++G)=true:=by simp only[lA,jh,decide_eq_true_eq]at h |-;exactλq hq=>Zj (h q hq) G
def Fs{F:F3}{M:b3}{lk:List (Nat×c9)}(yi:lA lk M=true){i j:Nat}(I:bO->Prop)(hI:∀env,I env->∀a b:D,I ((env.set i<|O a).set j<|O b)/\∀M:b3,Zb j ((env.set i<|O a).set j<|O b) M= .ok b M/\Zb i ((env.set i<|O a).set j<|O b) M= .ok a M):
  ∀(ts:List Sm) (k:Nat) (acc:c9) (env:bO),I env->(∀t∈ts,∀M,F [.U t.flat] M= .ok (.int (t.dp:Int)) M)->B acc+B ts<=1000 ->
  lB lk (oH [i,j]) [] (e2 Zv (aJ F<|Za (Zb j) Ze)<|Zb i) (B M) (oJ k<|ts.map λt=>D.U t.flat) env (M++[.L acc])= .ok (.ref<|B M) (M++[.L<|acc++(mG k ts).map D.int])
 |[],k,acc,env,_,_,_=>by show lB _ _ _ _ _ [] _ _=_;simp only[lB,Ld yi,if_true,mG,uX,iD]|t::ts,k,acc,env,hE,hF,hl=>by
  rw[Yp]at hl;let⟨hE',hv⟩:=hI env hE (.int (k:Int))<|.U t.flat;have ih:=Fs yi I hI ts (k+1) (acc++[.int ((t.dp+k:Nat):Int)]) _ hE' (λt ht=>hF t<|Yf _ ht) r0;have he:e2 Zv (aJ F<|Za (Zb j) Ze) (Zb i) ((env.set i<|c8 (k:Int)).set j<|O<|.U t.flat) (M++[.L acc])= .ok (.int ((t.dp+k:Nat):Int)) (M++[.L acc]):=by refine Zf (dD (hv _).1<|hF t Ye _) (hv _).2 ?_;rw[oF];rfl
  have gt:(M++[MO.L acc])[B M]?=O (.L acc):=Zm _ _ _;have lt:B acc<SZ:=uY (show B acc<=1000 by omega) aaA;have st:(M++[MO.L acc]).set (B M) (.L<|acc++[.int ((t.dp+k:Nat):Int)])=M++[.L<|acc++[.int ((t.dp+k:Nat):Int)]]:=by simpa using Qe M [.L acc] 0 _
  show lB _ _ _ _ _ (.U [.int (k:Int),.U t.flat]::oJ (k+1) (ts.map λt=>D.U t.flat)) _ _=_;simp only[lB,Ld yi,if_true,oH,Jr,Jq,Js,R3.bind,he,gt,lt,st];rw[ih];simp[mG]
def ZrO(t:Sm):vR 1 (mG 0 t.parts)=(t.dp:Int):=by
 cases t with
 |num _=>rfl|eQ _=>rfl|j8 a=>rfl|two o a b=>show(if((b.dp+(0+1):Nat):Int)>((a.dp+0:Nat):Int)then((b.dp+(0+1):Nat):Int)else((a.dp+0:Nat):Int))=((max a.dp (b.dp+1):Nat):Int);split <;>omega
def Ztx{t s:Sm}(h:s∈t.parts):B s.flat<B t.flat:=by
 have e:=t.Mi;have:B s.flat<=(t.parts.map Sm.flat).flatten.length:=by
  cases t with
  |num _=>cases h|eQ _=>cases h|j8 a=>rw[Yx.mp h];simp[Sm.parts]|two o a b=>
   rcases Yo.mp h with h|h
   .rw[h];simp[Sm.parts]
   .rw[Yx.mp h];simp[Sm.parts]
 rw[e,Yp];omega
def ZoY{t:Sm}(hg:t.good):∀s∈t.parts,s.good:=by
 cases t with
 |num _=>intro s h;cases h|eQ _=>intro s h;cases h|j8 a=>intro s h;rwa[Yx.mp h]|two o a b=>
  intro s h;rcases Yo.mp h with h|h
  .rw[h];exact hg.1
  .rw[Yx.mp h];exact hg.2
def Zsn(t:Sm):B t.parts<=2:=by cases t<;>simp[Sm.parts]
theorem k4:∀(n:Nat) (t:Sm),t.good->B t.flat<=n->n<=500->∀M:b3,Cw n [.U t.flat] M= .ok (.int (t.dp:Int)) M
 |0,t,_,hl,_,M=>by rw[t.Mi,Yp]at hl;exact k9 hl (Nat.not_succ_le_zero _)|n+1,t,hg,hl,hn,M=>by
  have hlp:=Zsn t;have ih:∀s∈t.parts,∀M,Cw n [.U s.flat] M= .ok (.int (s.dp:Int)) M:=λs hs=>k4 n s (ZoY hg s hs) (by have:=Ztx hs;omega) b5;let⟨G,k,h1,h2⟩:=Ztr M t hg<|Yi hl hn;have h3:(M++G)[B M+k]?=O (.L<|t.parts.map λt=>.U t.flat):=by rwa[qK]
  refine Rt.pure (env:=[O<|.U t.flat,Yj]) (G:=G++[.L<|(mG 0 t.parts).map D.int]) ?_ J;unfold ZX;refine(Zi<|Zq<|dD J h1).trans ?_;have lk:lA [(B M+k,t.parts.map λt=>D.U t.flat)] (M++G)=true:=by simp only[lA,lQ,U5,Oi];exact j2 h3
  have lp:=Fs (F:=Cw n) lk (i:=2) (j:=3) (λe=>∃a b c d,e=[a,b,c,d]) (λenv ⟨a,b,c,d,e⟩ x y=>by subst e;exact⟨⟨_,_,_,_,rfl⟩,λM=>⟨rfl,rfl⟩⟩) t.parts 0 [] [O<|.U t.flat,My<|B M+k,Yj,Yj] ⟨_,_,_,_,rfl⟩ ih r0;rw[jw]at lp;rw[<-ju];refine b7<|bR (M1:=M++G++[.L<|(mG 0 t.parts).map D.int]) (a:=.ref<|B<|M++G) ?_ ?_
  .show(R3.bind (R3.bind (R3.ok (D.ref<|B M+k)<|M++G) _) _)=_;simp only[R3.bind,h3];exact lp
  .rw[QL<|Zm _ _ [],ZrO]
def Zs5{t:Sm}(hg:t.good)(hl:B t.flat<=61)(M:b3):J3 [.U t.flat] M= .ok (.int (t.dp:Int)) M:=by have key:∀n,B t.flat<=n->n<=500->∀M,Cw n [.U t.flat] M= .ok (.int (t.dp:Int)) M:=λn h1 h2=>k4 n t hg h1 h2;exact key 61 hl aaA M
abbrev sD:b9:=Cs
structure b_(x:b9):Prop where
 pos:1<=x.length
 le:B x<=8
 own:x∉dG
 low:∀c∈x,97<=c/\c<=122
def Zxh(h:97<=c/\c<=122):c∈sD:=(KU:c∈tR 97 26↔_).mpr ⟨h.1,N_ h.2⟩
def in_words(x:b9)(M:b3):ni (.str x) (.U<|dG.map D.str) M= .ok (.bl<|decide<|x∈dG) M:=by
 have hf:(e_ (.str x)&&(dG.map D.str).all e_)=true:=rfl;have he:∀l:d6,(l.map D.str).any (λy=>fP y<|.str x)=decide (x∈l):=by
  intro l
  induction l with
  |nil=>rfl|cons y l ih=>
   rw[Yw,nY,ih,SD];by_cases h:y=x
   .subst h;simp
   .have h':x≠y:=λe=>h e.symm;simp[h,h']
 simp only[ni,Zx1,hf,if_true,he]
variable{i:Nat}
def len_str{x:b9}(h:B x<=1000)(hv:Zb i env M= .ok (.str x) M):aD aV (Za (Zb i) Ze) env M= .ok (.int (B x:Int)) M:=bR hv (by simp only[Bx,BJ,BK,t_,c_ (show B x<=SZ from Yi h aaA)])
def i3(x:b9):Bool:=decide (1<=B x)&&(decide (B x<=8)&&(!decide (x∈dG)&&x.all λc=>decide<|c∈sD))
def Le{x:b9}(h:B x<=1000)(M:b3):lE [.str x] M= .ok (.bl<|i3 x) M:=by
 have hz:B x<=SZ:=Yi h aaA;have ln:aD aV oC [i5 x] M= .ok (.int (B x:Int)) M:=len_str h J;have no:∀(hb:i3 x=false),dh iE (dh kP<|e2 ni (Zb 0) xO) [i5 x] M= .ok (.bl true) M->lE [.str x] M= .ok (.bl<|i3 x) M:=λhb hc=>by rw[hb];refine Rt.pure (G:=[]) (env:=[i5 x]) ?_ J;rw[iD];unfold QX;exact iK<|(cO hc).trans<|b7 J
 by_cases h1:B x<1
 .exact no (by simp[i3];omega) (pM<|Zf ln J<|by rw[mq,j2 b5])
 have c1:=iZ (g:=dh kP<|e2 ni (Zb 0) xO) (Zf (op:=eE) (g:=eC<|.int 1) ln J<|by rw[mq,j3<|by exactλz=>by omega]);by_cases h2:8<x.length
 .exact no (by simp[i3];omega) (c1.trans<|pM<|Zf ln (g:=uK) (b:=.int 8) J<|by rw[j6,j2 b5])
 have c2:=c1.trans (iZ (g:=e2 ni (Zb 0) xO)<|Zf (op:=dW) ln (g:=uK) (b:=.int 8) J<|by rw[j6,j3<|by exactλz=>by omega]);have c3:e2 ni (Zb 0) xO [i5 x] M= .ok (.bl<|decide<|x∈dG) M:=Zf J (g:=xO) (b:=.U<|dG.map D.str) J<|in_words x M;by_cases h3:x∈dG
 .exact no (by simp[i3,h3]) (c2.trans<|c3.trans<|by rw[j2 h3])
 have hb:i3 x=x.all λc=>decide<|c∈sD:=by unfold i3;rw[j2 (show 1<=B x by exact k_ h1),j2 (show B x<=8 by exact k_ h2),j3 h3];rfl
 rw[hb];refine Rt.pure (G:=[.L<|x.map λc=>D.bl<|decide<|c∈sD]) (env:=[i5 x]) ?_ J;unfold QX;refine(Zi<|cZ<|c2.trans<|c3.trans<|by rw[j3 h3]).trans ?_;have hi:(eG<|Zb 0) [i5 x] M= .ok ⟨x.map λc=>D.str [c],Yj⟩ M:=by simp only[eG,Zb,Nx,R3.bind,c_ hz]
 have lc:=ug (h:=λc=>D.bl<|decide<|c∈sD) (own:=1) (i:=1) (elt:=(e2 ni (Zb 1) Af)) hi nofun
  (λc hc M'=>Zf (a:=.str [c]) (b:=.str sD) J J<|in_str c sD M') (Yi h aaA)
 exact b7<|bR lc<|all_map<|Zm _ _ _
def b_.b{x:b9}(h:b_ x):i3 x=true:=by unfold i3;rw[j2 h.pos,j2 h.le,j3 h.own,jh.mpr λc hc=>j2<|Zxh<|h.low c hc];rfl
def b_.is{x:b9}(h:b_ x)(M:b3):lE [.str x] M= .ok (.bl true) M:=by rw[Le<|Yi h.le aaA,h.b]
def b_.ox{x:b9}(h:b_ x):oX x=false:=j3 λz=>h.own (by rcases z with rfl|rfl|rfl|rfl <;>decide)
def ZtD{x:b9}(h:oX x=true):(x=tT\/x=va\/x=vb\/x=AJ):=of_decide_eq_true h
def ZxA(x:b9)(M:b3):xN qU (.str x) M= .ok (.bl<|oX x) M:=by
 show R3.ok (D.bl (cQ x qU).isSome) M=_;rw[K6];by_cases h1:x=tT
 .subst h1;rfl
 by_cases h2:x=va
 .subst h2;rfl
 by_cases h3:x=vb
 .subst h3;rfl
 by_cases h4:x=jk
 .subst h4;rfl
 have:oX x=false:=j3 λz=>z.elim h1 λz=>z.elim h2 λz=>z.elim h3 h4;rw[d4 h1,d4 h2,d4 h3,d4 h4,this];rfl
def Rg(x:b9)(M:b3):xQ [.str x] M= .ok (.bl<|oX x) M:=(jT (M':=M) (env:=[i5 x])<|b7<|dF J<|ZxA x M).trans<|TC J
def bL:D->b9
 | .int i=>i_ i|.str x=>x|_=>[]
inductive qd:D->Prop
 |int (i:Int) (h:i.natAbs<10^60):qd (.int i)
 |eQ (x:b9) (h:b_ x):qd (.str x)
 |op (x:b9) (h:oX x=true):qd (.str x)
def Sm.fit:Sm->Prop
 | .num i=>i.natAbs<10^60|.eQ x=>b_ x|.j8 a=>a.fit|.two _ a b=>a.fit/\b.fit
theorem Dh:∀t:Sm,t.fit->t.good
 | .num _,_=>trivial|.eQ _,h=>h.ox|.j8 a,h=>Dh a h|.two _ a b,h=>⟨Dh a h.1,Dh b h.2⟩
def Zya(o:Nat):oX (zZ o)=true:=by
 match o with
 |0=>rfl|1=>rfl|_+2=>rfl
theorem Di:∀(t:Sm),t.fit->∀w∈t.flat,qd w
 | .num i,h,w,hw=>by rw[Yx.mp hw];exact .int i h|.eQ x,h,w,hw=>by rw[Yx.mp hw];exact .eQ x h|.j8 a,h,w,hw=>by
  rcases Yo.mp hw with hw|hw
  .rw[hw];exact .op _ J
  .exact Di a h w hw
 | .two o a b,h,w,hw=>by
  rcases Yo.mp hw with hw|hw
  .rw[hw];exact .op _<|Zya o
  .rcases gF.mp hw with hw|hw
   .exact Di a h.1 w hw
   .exact Di b h.2 w hw
def jm{i:Int}(hc:c∈i_ i):c<=57:=by
 cases i with
 |ofNat n=>rw[show i_ (Int.ofNat n)=dH n from Q_ n]at hc;exact(zX n c hc).2|negSucc n=>
  rw[Ra]at hc;rcases Yo.mp hc with h|h
  .omega
  .exact(zX _ c h).2
def jl(i:Int):∃c r,i_ i=c::r:=by
 cases i with
 |ofNat n=>
  rw[show i_ (Int.ofNat n)=dH n from Q_ n];cases e:dH n with
  |nil=>exact k9 e (K8 n)|cons c r=>exact⟨c,r,rfl⟩
 |negSucc n=>exact⟨_,_,Ra n⟩
def ZsD(i:Int):oX (i_ i)=false:=by let⟨c,r,e⟩:=jl i;have hc:c<=57:=jm (i:=i) (by rw[e];exact Ye);refine j3 λz=>?_;rw[e]at z;rcases z with z|z|z|z<;>(have:=(lu z).1;omega)
def Ztf(i:Int):i3 (i_ i)=false:=by
 let⟨c,r,e⟩:=jl i;have hc:c<=57:=jm (i:=i) (by rw[e];exact Ye);have:decide (c∈sD)=false:=j3 λz=>by simp only[Yo,rm,or_false]at z;omega
 unfold i3;rw[e,lQ,this,yU,mj,mj,mj]
def Fu{x:b9}(h:oX x=true):1<=B x/\x.length<=60/\∀c∈x,97<=c:=by rcases ZtD h with rfl|rfl|rfl|rfl <;>decide
def jn{w:D}(h:qd w)(hv:∀M,Zb 3 env M= .ok (.str<|bL w) M):
  dh nc (dh ng nk) env M= .ok (.bl true) M:=by
 cases h with
 |int i hi=>rw[iZ ((dD (hv M)<|Rg _ M).trans<|by rw[show bL (.int i)=i_ i from rfl,ZsD]),iZ<|(dD (hv M)<|Le (x:=i_ i) (Yi (p0 hi) aaA) M).trans<|by rw[Ztf]];exact dD (hv M) (K' hi M)|eQ x hx=>rw[iZ<|(dD (hv M)<|Rg _ M).trans<|by rw[show bL (.str x)=x from rfl,hx.ox]];exact pM (dD (hv M)<|hx.is M)|op x hx=>exact pM ((dD (hv M)<|Rg _ M).trans<|by rw[show bL (.str x)=x from rfl,hx])
def ez{w:D}(h:qd w)(hv:∀M,Zb 3 env M= .ok (.str<|bL w) M):
  j5 nk nv (Zb 3) env M= .ok w M:=by
 cases h with
 |int i hi=>rw[zu<|dD (hv M)<|K' hi M];have r:=E6 i hi;refine bR (hv M) ?_;show vG [.str<|i_ i] M=_;simp only[vG,r.1];exact c_ (Yi r.2.1 aaA)|eQ x hx=>rw[xj<|dD (hv M)<|e6 hx.pos (Yi hx.le aaA) (λc hc=>(hx.low c hc).1) M];exact hv M|op x hx=>have q:=Fu hx;rw[xj<|dD (hv M)<|e6 q.1 q.2.1 q.2.2 M];exact hv M
structure M0(ts:List Sm):Prop where
 fit:∀t∈ts,t.fit
 len:(ts.map Sm.flat).flatten.length<=60
 dep:vR 0 (mG 0 ts)<=6
abbrev bN(ts:List Sm):c9:=(ts.map Sm.flat).flatten
variable{ts:List Sm}
def D0(h:∀t∈ts,t.fit):∀w∈bN ts,qd w:=λw hw=>by let⟨l,h1,h2⟩:=Ll.mp hw;let⟨t,ht,rfl⟩:=kZ.mp h1;exact Di t (h t ht) w h2
def HR{t:Sm}(h:t∈ts):B t.flat<=B (bN ts):=by
 induction ts with
 |nil=>cases h|cons a ts ih=>
  rw[bN,Yw,q_,Yd];rcases Yo.mp h with e|e
  .rw[e];exact iG _ _
  .have:=ih e;rw[bN]at this;omega
def FA(ts:List Sm):B ts<=B (bN ts):=by
 induction ts with
 |nil=>exact Yu _|cons t l ih=>rw[bN,Yw,q_,Yd,Yp];let⟨w,r,e⟩:=Gy t;rw[e,Yp];rw[bN]at ih;omega
abbrev rsE:S3:=aM fT
def FC(Lf:∀t∈ts,t.fit)(Mq:B (bN ts)<=60)(hn:M[n]?=O (.L<|(bN ts).map λw=>D.str<|bL w)):∃(G:b3) (k:Nat),G[k]?=O (.L<|ts.map λt=>.U t.flat)/\(M++G)[B (M++G)-1]?=O (.L<|(mG 0 ts).map D.int)/\
  Gr [My n,Yj,Yj] M=rsE [My n,My<|B M+k,My<|B (M++G)-1] (M++G):=by
 have xp:=D0 Lf;have hz:B (bN ts)<=100000:=Yi Mq aaA
 let M1:=M++[MO.L<|(bN ts).map λ_=>D.bl true]
 let M2:=M1++[MO.L<|(bN ts).map λw=>w]
 have t4:M1[n]?=O (.L<|(bN ts).map λw=>D.str<|bL w):=Zj hn _;have hi:∀{S:b3} (_:S[n]?=O (.L<|(bN ts).map λw=>D.str<|bL w)),(eG<|Zb 0) [My n,Yj,Yj] S= .ok ⟨(bN ts).map λw=>D.str<|bL w,O n⟩ S:=λh=>by show(R3.ok (D.ref n) _).bind _=_;simp only[R3.bind];rw[h]
 have l1:=ug (h:=λ_=>D.bl true) (own:=1) (i:=3) (elt:=dh nc<|dh ng nk) (hi hn) (λm e=>by cases e;exact hn)
  (λw hw M'=>jn (xp w hw) λ_=>rfl) hz
 have l2:=ug (h:=λw=>w) (own:=1) (i:=3) (elt:=j5 nk nv<|Zb 3) (hi t4) (λm e=>by cases e;exact t4)
  (λw hw M'=>ez (xp w hw) λ_=>rfl) hz
 have gH:M2[B M1]?=O (.L<|bN ts):=(Zm M1 (MO.L<|(bN ts).map λw=>w) []).trans (by rw[U6]);let⟨G,k,h1,h2⟩:=Zny M2 ts (λt ht=>Dh t<|Lf t ht) (Yi Mq aaA) gH;have h3:(M2++G)[B M2+k]?=O (.L<|ts.map λt=>.U t.flat):=by rwa[qK]
 have lk:lA [(B M2+k,ts.map λt=>D.U t.flat)] (M2++G)=true:=by simp only[lA,lQ,U5,Oi];exact j2 h3
 have rX:=FA ts;have lp:=Fs (F:=J3) lk (i:=3) (j:=4) (λe=>∃a b c d f,e=[a,b,c,d,f]) (λenv ⟨a,b,c,d,f,e⟩ x y=>by subst e;exact⟨⟨_,_,_,_,_,rfl⟩,λM=>⟨rfl,rfl⟩⟩) ts 0 [] [My n,My<|B M2+k,Yj,Yj,Yj] ⟨_,_,_,_,_,rfl⟩ (λt ht M=>Zs5 (Dh t<|Lf t ht) (by have:=HR ht;omega) M) r0;rw[jw]at lp;have hlen:B M2=B M+2:=by simp[M2,M1]
 let G0:b3:=[MO.L<|(bN ts).map λ_=>D.bl true,MO.L<|(bN ts).map λw=>w]
 have eM:M++(G0++G++[.L<|(mG 0 ts).map D.int])=M2++G++[.L<|(mG 0 ts).map D.int]:=by simp[G0,M2,M1]
 refine⟨G0++G++[.L<|(mG 0 ts).map D.int],2+k,?_,?_,?_⟩
 .rw[ju,l_ 2 k];show(G++[MO.L<|(mG 0 ts).map D.int])[k]?=_;exact Zj h2 _
 .rw[eM,Yd,Y8,LL];exact Zm _ _ _
 .rw[eM,<-u5,<-hlen,Yd (bs:=[MO.L<|(mG 0 ts).map D.int]),Y8,LL];unfold Gr;have t1:=all_map (p:=λ_=>true) (l:=bN ts)<|Zm M (MO.L<|(bN ts).map λ_=>D.bl true) [];rw[show((bN ts).all λ_=>true)=true from jh.mpr λ_ _=>rfl]at t1;refine(Zi<|cZ (M':=M1)<|dF (bR l1 t1) J).trans ?_;refine(Zi<|Zq (d:=.ref<|B M2+k) (M':=M2++G)<|dD l2 h1).trans ?_;refine(Zi<|cZ (M':=M2++G) yz).trans ?_;refine(Zi<|Zq (d:=.ref<|B<|M2++G) (M':=M2++G++[.L<|(mG 0 ts).map D.int]) ?_).trans J;show(R3.bind (R3.bind (R3.ok (D.ref<|B M2+k)<|M2++G) _) _)=_;simp only[R3.bind,h3];exact lp
def ZmE(H:M0 ts)(hn:M[n]?=O (.L<|(bN ts).map λw=>D.str<|bL w)):∃G k,ux [.ref n] M= .ok (.ref<|B M+k) (M++G)/\G[k]?=O (.L<|ts.map λt=>.U t.flat):=by
 let⟨G,k,g1,g2,e⟩:=FC H.fit H.len hn;refine⟨G,k,(jT (M':=M++G) (d:=.ref<|B M+k) (env:=[My n,Yj,Yj]) ?_).trans ?_,g1⟩
 .rw[e];exact b7<|(zu (M1:=M++G)<|Zf (bR J<|QL g2) (g:=uM) (b:=.int 6) J<|Jv H.dep).trans J
 .have hb:below (B M) (.ref<|B M+k)=false:=j3<|Va.mpr<|iG _ _;rw[gj,hb];rfl
def ZlX(Lf:∀t∈ts,t.fit)(Mq:B (bN ts)<=60)(hd:6<vR 0 (mG 0 ts))(hn:M[n]?=O (.L<|(bN ts).map λw=>D.str<|bL w)):ux [.ref n] M= .ok .Z M:=by let⟨G,k,g1,g2,e⟩:=FC Lf Mq hn;refine Rt.pure (G:=G) (env:=[My n,Yj,Yj]) ?_ J;rw[e];exact b7 ((xj (M1:=M++G)<|Zf (bR J<|QL g2) (g:=uM) (b:=.int 6) J<|by rw[Qc,j3<|Bc.mpr hd]).trans J)
abbrev iR:b9:=BE
abbrev nH:b9:=BF
abbrev sI:b9:=BG
abbrev jd:b9:=AV
abbrev qe:b9:=AW
abbrev fV:b9:=BH
abbrev iC:b9:=BI
structure Rw where
 h:b9
 xs:d6
 ts:List Sm
def Rw.words(r:Rw):d6:=r.h::(r.xs++(bN r.ts).map bL)
def Rw.n5(r:Rw):c9:=.str r.h::(r.xs.map D.str++r.ts.map λt=>D.U t.flat)
structure gJ(r:Rw):Prop where
 sm:cQ r.h fj=O (B r.ts:Int)
 nx:B r.xs=if r.h=iR then 1 else 0
 nm:∀x∈r.xs,b_ x
 ok:M0 r.ts
 le:B r.xs+B (bN r.ts)<=59
def oY{o:E3}{lo hi:Bu}{a b:Option Int}(ho:o env M= .ok (.ref n) M)(hl:lo env M= .ok a M)(hh:hi env M= .ok b M)(h:M[n]?=O (.L ds)):bf o lo hi env M= .ok (.ref<|B M) (M++[.L<|cutD ds a b]):=by simp only[bf,ho,hl,hh,R3.bind,zm,h];rfl
def Zup(a:α)(x y:List α):cutD (a::(x++y)) (O ((1:Nat):Int)) (O ((1+B x:Nat):Int))=x:=by unfold cutD;rw[Bp,Bp,Et (show 1+B x<=B (a::(x++y)) by simp only[Yp,Yd];omega),Et (show 1<=B (a::(x++y)) by simp),Nat.add_sub_cancel_left];simp
variable{m:Nat}
def mH{x y:c9}(h1:M[n]?=O (.L x))(h2:M[m]?=O (.L y))(hz:B x+B y<=900000):Zv (.ref n) (.ref m) M= .ok (.ref<|B M) (M++[.L<|x++y]):=by rw[ZtB,h1,h2];exact c_<|Yi hz aaA
theorem D5{n:Nat}:∀{l:c9},(∀w∈l,sH w)->eN n l=true
 |[],_=>rfl|w::l,h=>by
  have h1:below n w=true:=by cases h w Ye<;>rfl
  show(below n w&&eN n l)=true;rw[h1,D5 λx hx=>h x<|Yf _ hx];rfl
theorem D6{n:Nat}:∀{x y:c9},eN n x=true->eN n y=true->eN n (x++y)=true
 |[],_,_,h=>h|a::x,y,h,k=>by have h:(below n a&&eN n x)=true:=h;rw[gO]at h;show(below n a&&eN n (x++y))=true;rw[h.1,D6 h.2 k];rfl
theorem B2{n:Nat}:∀ts:List Sm,eN n (ts.map λt=>D.U t.flat)=true
 |[]=>rfl|t::ts=>by show(eN n t.flat&&eN n (ts.map λt=>D.U t.flat))=true;rw[D5<|La t,B2 ts];rfl
theorem FD{n:Nat}:∀xs:d6,eN n (xs.map D.str)=true
 |[]=>rfl|_::xs=>FD xs
def Rw.below{n:Nat}(r:Rw):below n (.U r.n5)=true:=by show eN n (.str r.h::(r.xs.map D.str++r.ts.map λt=>D.U t.flat))=true;show eN n (r.xs.map D.str++r.ts.map λt=>D.U t.flat)=true;exact D6 (FD _)<|B2 _
structure zo(r:Rw):Prop where
 sm:cQ r.h fj=O (B r.ts:Int)
 nx:B r.xs=if r.h=iR then 1 else 0
 nm:∀x∈r.xs,b_ x
 le:B r.xs+B (bN r.ts)<=59
variable{r:Rw}
def gJ.pre(H:gJ r):zo r:=⟨H.sm,H.nx,H.nm,H.le⟩
abbrev Gz(r:Rw):b3:=[MO.L<|r.xs.map D.str,MO.L<|r.xs.map λ_=>D.bl true,MO.L<|(bN r.ts).map λw=>D.str<|bL w]
abbrev zp:S3:=(Zt cq fF)
variable{S:b3}
def Zmr(H:zo r){d:D}(hn:M[n]?=O (.L<|r.words.map D.str))(hs:ux [.ref<|B M+2] (M++Gz r)= .ok d S):zR [My n,Yj,Yj] M=zp [My n,c8 ((1+B r.xs:Nat):Int),O d] S:=by
 have hlen:B r.words=1+B r.xs+B (bN r.ts):=by simp only[Rw.words,Yp,Yd,Ym];exact fY b5 b5
 have hle:=H.le;have e0:∀{S:b3} {a b:Option D},S[n]?=O (.L<|r.words.map D.str)->e2 Zn (Zb 0) pz [My n,a,b] S= .ok (.str r.h) S:=λh=>Zf J J<|dO h<|cP _ 0
 let i8:Int:=((1+B r.xs:Nat):Int)
 have hB:j5 gc pE px [My n,Yj,Yj] M= .ok (.int i8) M:=by
  by_cases h:r.h=iR
  .have e:i8=2:=by show((1+B r.xs:Nat):Int)=2;rw[H.nx,c_ h];rfl
   rw[zu (M1:=M) (Zf (e0 hn) J<|by simp only[aN,vy,j2 h]),e];rfl
  .have e:i8=1:=by show((1+B r.xs:Nat):Int)=1;rw[H.nx,d4 h];rfl
   rw[xj (M1:=M) (Zf (e0 hn) J<|by simp only[aN,vy,j3 h]),e];rfl
 let M1:=M++[MO.L<|r.xs.map D.str]
 let M2:=M1++[MO.L<|r.xs.map λ_=>D.bl true]
 let M3:=M2++[MO.L<|(bN r.ts).map λw=>D.str<|bL w]
 have ua:M2[n]?=O (.L<|r.words.map D.str):=Zj (Zj hn _) _;have ew:r.words.map D.str=D.str r.h::(r.xs.map D.str++(bN r.ts).map λw=>D.str<|bL w):=by show D.str r.h::(r.xs++(bN r.ts).map bL).map D.str=_;rw[fX,pC];rfl
 have hx:B (r.xs.map D.str)=B r.xs:=Ym _;have c1:cutD (r.words.map D.str) (O ((1:Nat):Int)) (O i8)=r.xs.map D.str:=by have:=Zup (D.str r.h) (r.xs.map D.str)<|(bN r.ts).map λw=>D.str<|bL w;rw[hx]at this;rwa[ew]
 have c2:cutD (r.words.map D.str) (O i8) Yj=(bN r.ts).map λw=>D.str<|bL w:=by rw[vY,ew,l_,NP,<-hx,LA]
 have s1:eG kf [My n,c8 i8,Yj] M= .ok ⟨r.xs.map D.str,O<|B M⟩ M1:=by have:=oY (env:=[My n,c8 i8,Yj]) (o:=Zb 0) (lo:=aX px) (hi:=aX<|Zb 1) (a:=O ((1:Nat):Int)) (b:=O i8) J J J hn;rw[c1]at this;show(bf _ _ _ _ _).bind _=_;rw[this];simp only[R3.bind,Zm];rfl
 have l1:=ug (h:=λ_=>D.bl true) (own:=1) (i:=3) (elt:=aJ lE oz) s1 (λm e=>by cases e;exact Zm M _ [])
  (λx hx M'=>dD J<|(H.nm x hx).is M') b5
 have t1:=all_map (p:=λ_=>true) (l:=r.xs)<|Zm M1 (MO.L<|r.xs.map λ_=>D.bl true) [];rw[show(r.xs.all λ_=>true)=true from jh.mpr λ_ _=>rfl]at t1;have s2:bf (Zb 0) (aX<|Zb 1) bh [My n,c8 i8,Yj] M2= .ok (.ref<|B M2) M3:=by have:=oY (env:=[My n,c8 i8,Yj]) (o:=Zb 0) (lo:=aX<|Zb 1) (hi:=bh) (a:=O i8) (b:=Yj) J J J ua;rwa[c2]at this
 have gH:B M2=B M+2:=by simp[M2,M1]
 rw[<-gH,show M++Gz r=M3 by simp[M3,M2,M1]]at hs;unfold zR;have q1:e1 (Gm fj) (e2 Zn (Zb 0) pz) [My n,Yj,Yj] M= .ok (.bl false) M:=dF (e0 hn) (by show R3.ok (D.bl<|!(cQ r.h fj).isSome) M=_;rw[H.sm];rfl);have q2:e2 dW mS uN [My n,Yj,Yj] M= .ok (.bl false) M:=Zf (bR J<|jU hn) (g:=uN) (b:=.int 60) J (by rw[j6,j3 (by rw[Ym,hlen];exactλz=>by omega)]);refine(Zi<|cZ<|(iZ q1).trans q2).trans ?_;refine(Zi<|Zq hB).trans ?_;refine(Zi<|cZ (M':=M2)<|dF (bR l1 t1) J).trans ?_;exact Zi<|Zq<|dD s2 hs
def ZmC(H:gJ r)(hn:M[n]?=O (.L<|r.words.map D.str)):Cy [.ref n] M= .ok (.U r.n5) M:=by
 let i8:Int:=((1+B r.xs:Nat):Int)
 have ew:r.words.map D.str=D.str r.h::(r.xs.map D.str++(bN r.ts).map λw=>D.str<|bL w):=by show D.str r.h::(r.xs++(bN r.ts).map bL).map D.str=_;rw[fX,pC];rfl
 have hx:B (r.xs.map D.str)=B r.xs:=Ym _;have c3:cutD (r.words.map D.str) Yj (O i8)=D.str r.h::r.xs.map D.str:=by rw[Df,ew,l_,HY,<-hx,U3]
 let M3:=M++Gz r
 let⟨G,k,h1,h2⟩:=ZmE H.ok (n:=B M+2) (M:=M3) (by show(M++Gz r)[B M+2]?=_;rw[qK];rfl)
 let M4:=M3++G
 have hk:M4[B M3+k]?=O (.L<|r.ts.map λt=>.U t.flat):=by show(M3++G)[_]?=_;rwa[qK]
 have Rh:M4[n]?=O (.L<|r.words.map D.str):=Zj (Zj hn _) _
 let M5:=M4++[MO.L<|D.str r.h::r.xs.map D.str]
 let M6:=M5++[MO.L r.n5]
 have s3:bf (Zb 0) bh (aX<|Zb 1) [My n,c8 i8,My<|B M3+k] M4= .ok (.ref<|B M4) M5:=by have:=oY (env:=[My n,c8 i8,My<|B M3+k]) (o:=Zb 0) (lo:=bh) (hi:=aX<|Zb 1) (a:=Yj) (b:=O i8) J J J Rh;rwa[c3]at this
 have rX:=FA r.ts;have hle:=H.le;have s4:e2 Zv (bf (Zb 0) bh<|aX<|Zb 1) (Zb 2) [My n,c8 i8,My<|B M3+k] M4= .ok (.ref<|B M5) M6:=Zf s3 J<|mH (Zm M4 _ []) (Zj hk _) r0;have hM6:M6=M++(Gz r++G++[MO.L<|D.str r.h::r.xs.map D.str,MO.L r.n5]):=by simp[M6,M5,M4,M3]
 refine Rt.pure (G:=Gz r++G++[MO.L<|D.str r.h::r.xs.map D.str,MO.L r.n5]) (env:=[My n,Yj,Yj]) ?_ r.below;rw[<-hM6,Zmr H.pre hn h1];have q3:e2 iJ ny kg [My n,c8 i8,My<|B M3+k] M4= .ok (.bl false) M4:=by
  refine Zf (M2:=M4) (bR J<|jU hk) (dF (M2:=M4) (Zf J J<|dO Rh (d:=.str r.h)<|cP _ 0) (d:=.int (B r.ts:Int)) ?_) ?_
  .simp only[zP,H.sm]
  .simp only[iJ,rH,Ym,j2 (rfl:(B r.ts:Int)=B r.ts)];rfl
 refine(Zi<|cZ<|(iZ (M1:=M4) yz).trans q3).trans ?_;exact b7<|bR s4<|vD<|Zm M5 _ []
def qi(w:b9):Bool:=oX w|| (i3 w|| zY w)
def ZwO{w:b9}(hw:B w<=1000)(hv:∀M,Zb 3 env M= .ok (.str w) M):
  dh nc (dh ng nk) env M= .ok (.bl<|qi w) M:=by
 have h1:=dD (hv M)<|Rg w M;have h2:=dD (hv M)<|Le hw M;have h3:=dD (hv M)<|Zqw hw M;unfold qi;cases e1:oX w with
 |true=>rw[e1]at h1;exact pM h1|false=>
  rw[e1]at h1;rw[iZ h1];cases e2:i3 w with
  |true=>rw[e2]at h2;exact pM h2|false=>rw[e2]at h2;rwa[iZ h2]
def GD(hv:Zb i env S= .ok (.ref n) S)(h:S[n]?=O (.L xs)):eG (Zb i) env S= .ok ⟨xs,O n⟩ S:=by unfold eG;rw[hv];simp only[R3.bind,h]
variable{ws:d6}
def Zka(hl:∀w∈ws,B w<=1000)(hz:B ws<=60)(hb:ws.all qi=false)(hn:M[n]?=O (.L<|ws.map D.str)):ux [.ref n] M= .ok .Z M:=by
 have l1:=ug (h:=λw=>D.bl<|qi w) (own:=1) (i:=3) (elt:=dh nc<|dh ng nk) (GD (env:=[My n,Yj,Yj]) (i:=0) J hn) (λm e=>by cases e;exact hn)
  (λw hw M'=>ZwO (hl w hw) λ_=>rfl) (Yi hz aaA)
 have t1:=all_map (p:=qi) (l:=ws)<|Zm M (MO.L<|ws.map λw=>D.bl<|qi w) [];rw[hb]at t1;refine Rt.pure (G:=[MO.L<|ws.map λw=>D.bl<|qi w]) (env:=[My n,Yj,Yj]) ?_ J;unfold Gr;exact iK<|(cO (M':=M++[MO.L<|ws.map λw=>D.bl<|qi w])<|dF (bR l1 t1) J).trans<|b7 J
def Zmp(M:b3){ws:c9}(hw:∀w∈ws,sH w)(hl:B ws<=500)(ho:(ws.foldl qB ([],0)).2≠0)(hn:M[n]?=O (.L ws)):xP [.ref n] M= .ok .Z M:=by have hS:∀done,(eU M done)[n]?=O (.L ws):=λdone=>Zj hn _;let⟨x,hx⟩:=c5 M (.ref n) ws hw hl Yj ⟨ws,O n⟩ λdone=>j2<|hS done;refine Rt.pure (G:=.L (nG (B M) (ws.foldl qB ([],0)).1.length)::(ws.foldl qB ([],0)).1.map MO.L) (env:=[My n,Yj,Yj,Yj]) ?_ J;unfold QV;rw[Zi<|Zq (d:=.ref<|B M) (M':=eU M []) tw,Zi<|Zq (d:=.int 0) J,Zi<|(BP (it:=⟨ws,O n⟩)<|GD J<|hS []).trans hx];exact b7<|(xj<|Zf J J<|pK λz=>ho<|Bg z).trans J
def qd.w{w:D}(h:qd w):sH w:=by cases h<;>constructor
def ZkN{ws:c9}(hf:∀w∈ws,qd w)(hz:B ws<=60)(ho:(ws.foldl qB ([],0)).2≠0)(hn:M[n]?=O (.L<|ws.map λw=>D.str<|bL w)):ux [.ref n] M= .ok .Z M:=by
 let M1:=M++[MO.L<|ws.map λ_=>D.bl true]
 let M2:=M1++[MO.L<|ws.map λw=>w]
 have t4:M1[n]?=O (.L<|ws.map λw=>D.str<|bL w):=Zj hn _;have AQ:B ws<=100000:=Yi hz aaA;have l1:=ug (h:=λ_=>D.bl true) (own:=1) (i:=3) (elt:=dh nc<|dh ng nk) (GD (env:=[My n,Yj,Yj]) (i:=0) J hn) (λm e=>by cases e;exact hn)
  (λw hw M'=>jn (hf w hw) λ_=>rfl) AQ
 have l2:=ug (h:=λw=>w) (own:=1) (i:=3) (elt:=j5 nk nv<|Zb 3) (GD (env:=[My n,Yj,Yj]) (i:=0) J t4) (λm e=>by cases e;exact t4)
  (λw hw M'=>ez (hf w hw) λ_=>rfl) AQ
 have gH:M2[B M1]?=O (.L ws):=(Zm M1 (MO.L<|ws.map λw=>w) []).trans (by rw[U6]);have t1:=all_map (p:=λ_=>true) (l:=ws)<|Zm M (MO.L<|ws.map λ_=>D.bl true) [];rw[show(ws.all λ_=>true)=true from jh.mpr λ_ _=>rfl]at t1;have h1:=Zmp M2 (λw hw=>(hf w hw).w) (Yi hz aaA) ho gH;refine Rt.pure (G:=[MO.L<|ws.map λ_=>D.bl true,MO.L<|ws.map λw=>w]) (env:=[My n,Yj,Yj]) ?_ J;unfold Gr;refine(Zi<|cZ (M':=M1)<|dF (bR l1 t1) J).trans ?_;refine(Zi<|Zq (d:=.Z) (M':=M2)<|dD l2 h1).trans ?_;rw[show M++[MO.L<|ws.map λ_=>D.bl true,MO.L<|ws.map λw=>w]=M2 by simp[M2,M1]];exact iK<|(cO (M':=M2) yz).trans<|b7 J
def v4(ws:d6)(c:Int):Prop:=∀(S:b3) (m:Nat),S[m]?=O (.L<|ws.map D.str)->ux [.ref m] S= .ok .Z S\/∃(G:b3) (k:Nat) (xs:c9),ux [.ref m] S= .ok (.ref<|B S+k) (S++G)/\G[k]?=O (.L xs)/\(B xs:Int)≠c
def ZmZ{c:Int}(hl:∀w∈ws,B w<=1000)(hz:B ws<=60)(hb:ws.all qi=false):v4 ws c:=λ_ _ h=>.inl<|Zka hl hz hb h
def ig{ws:c9}{c:Int}(hf:∀w∈ws,qd w)(hz:B ws<=60)(ho:(ws.foldl qB ([],0)).2≠0):v4 (ws.map bL) c:=λ_ _ h=>.inl (ZkN hf hz ho<|by rwa[pC]at h)
def GF{c:Int}(hf:∀t∈ts,t.fit)(hz:B (bN ts)<=60)(hc:(B ts:Int)≠c):v4 ((bN ts).map bL) c:=λS m h=>by
 let⟨G,k,g1,g2,e⟩:=FC hf hz (n:=m) (M:=S) (by rwa[pC]at h);by_cases hd:vR 0 (mG 0 ts)<=6
 .refine .inr ⟨G,k,_,(jT (M':=S++G) (d:=.ref<|B S+k) (env:=[My m,Yj,Yj]) ?_).trans ?_,g1,by rwa[Ym]⟩
  .rw[e];exact b7<|(zu (M1:=S++G)<|Zf (bR J<|QL g2) (g:=uM) (b:=.int 6) J<|Jv hd).trans J
  .have hb:below (B S) (.ref<|B S+k)=false:=j3<|Va.mpr<|iG _ _;rw[gj,hb];rfl
 .exact .inl (ZlX hf hz (Bc.mp hd)<|by rwa[pC]at h)
def Aa(ws:d6):Prop:=∀(S:b3) (a:Nat),S[a]?=O (.L<|ws.map D.str)->Cy [.ref a] S= .ok .Z S
variable{h:b9}
def kD(hk:cQ h fj=Yj):Aa (h::ws):=λM n hn=>by refine Rt.pure (G:=[]) (env:=[My n,Yj,Yj]) ?_ J;rw[iD];unfold zR;have q1:e1 (Gm fj) (e2 Zn (Zb 0) pz) [My n,Yj,Yj] M= .ok (.bl true) M:=dF (Zf J J<|dO hn<|cP _ 0) (by show R3.ok (D.bl<|!(cQ h fj).isSome) M=_;rw[hk];rfl);exact iK<|(cO<|pM q1).trans<|b7 J
def su{c:Int}{b:Nat}(hk:cQ h fj=O c)(eb:b=if h=iR then 1 else 0)(hl:B ws<=59)(hw:∀w∈ws,B w<=1000)(hs:(ws.take b).all i3=true->v4 (ws.drop b) c):Aa (h::ws):=λM n hn=>by
 have e0:∀{S:b3} {a b:Option D},S[n]?=O (.L<|(h::ws).map D.str)->e2 Zn (Zb 0) pz [My n,a,b] S= .ok (.str h) S:=λh=>Zf J J<|dO h<|cP _ 0
 let i8:Int:=((1+b:Nat):Int)
 have hB:j5 gc pE px [My n,Yj,Yj] M= .ok (.int i8) M:=by
  by_cases h2:h=iR
  .have e:i8=2:=by show((1+b:Nat):Int)=2;rw[eb,c_ h2];rfl
   rw[zu (M1:=M) (Zf (e0 hn) J<|by simp only[aN,vy,j2 h2]),e];rfl
  .have e:i8=1:=by show((1+b:Nat):Int)=1;rw[eb,d4 h2];rfl
   rw[xj (M1:=M) (Zf (e0 hn) J<|by simp only[aN,vy,j3 h2]),e];rfl
 have q1:e1 (Gm fj) (e2 Zn (Zb 0) pz) [My n,Yj,Yj] M= .ok (.bl false) M:=dF (e0 hn) (by show R3.ok (D.bl<|!(cQ h fj).isSome) M=_;rw[hk];rfl);have q2:e2 dW mS uN [My n,Yj,Yj] M= .ok (.bl false) M:=Zf (bR J<|jU hn) (g:=uN) (b:=.int 60) J (by rw[j6,j3 (by rw[Ym,Yp];omega)])
 let xs:=ws.take b
 let ys:=ws.drop b
 let M1:=M++[MO.L<|xs.map D.str]
 let M2:=M1++[MO.L<|xs.map λx=>D.bl<|i3 x]
 let M3:=M2++[MO.L<|ys.map D.str]
 have ua:M2[n]?=O (.L<|(h::ws).map D.str):=Zj (Zj hn _) _;have c1:cutD ((h::ws).map D.str) (O ((1:Nat):Int)) (O i8)=xs.map D.str:=by
  rw[Zs0];refine congrArg (List.map D.str) ?_;unfold cutD;rw[Bp,Bp,Et (show 1<=B (h::ws) by simp)];show((h::ws).drop 1).take (gw (1+b) (B<|h::ws)-1)=ws.take b;rw[List.drop_one,List.tail_cons,Yp];by_cases hb:b<=ws.length
  .rw[show gw (1+b) (B ws+1)-1=b by omega]
  .rw[show gw (1+b) (B ws+1)-1=B ws by omega,UT,tL b5]
 have c2:cutD ((h::ws).map D.str) (O i8) Yj=ys.map D.str:=by rw[vY,<-LD,l_,NP]
 have s1:eG kf [My n,c8 i8,Yj] M= .ok ⟨xs.map D.str,O<|B M⟩ M1:=by have:=oY (env:=[My n,c8 i8,Yj]) (o:=Zb 0) (lo:=aX px) (hi:=aX<|Zb 1) (a:=O ((1:Nat):Int)) (b:=O i8) J J J hn;rw[c1]at this;show(bf _ _ _ _ _).bind _=_;rw[this];simp only[R3.bind,Zm];rfl
 have l1:=ug (h:=λx=>D.bl<|i3 x) (own:=1) (i:=3) (elt:=aJ lE oz) s1 (λm e=>by cases e;exact Zm M _ [])
  (λx hx M'=>dD J<|Le (hw x<|wK hx) M') (by have:B (ws.take b)<=B ws:=Uv _ _;show(ws.take b).length<=_;omega)
 have t1:=all_map (p:=i3) (l:=xs)<|Zm M1 (MO.L<|xs.map λx=>D.bl<|i3 x) [];have s2:bf (Zb 0) (aX<|Zb 1) bh [My n,c8 i8,Yj] M2= .ok (.ref<|B M2) M3:=by have:=oY (env:=[My n,c8 i8,Yj]) (o:=Zb 0) (lo:=aX<|Zb 1) (hi:=bh) (a:=O i8) (b:=Yj) J J J ua;rwa[c2]at this
 have pre:∀S,zR [My n,Yj,Yj] M= .rt .Z (M++S)->Cy [.ref n] M= .ok .Z M:=λS h=>Rt.pure (G:=S) (env:=[My n,Yj,Yj]) h J;have go:zR [My n,Yj,Yj] M=(if xs.all i3 then Zt gI zp [My n,c8 i8,Yj] M2 else .rt .Z M2):=by
  unfold zR;refine(Zi<|cZ<|(iZ q1).trans q2).trans ?_;refine(Zi<|Zq hB).trans ?_;cases hx:xs.all i3 with
  |true=>rw[hx]at t1;exact Zi (cZ (M':=M2)<|dF (bR l1 t1) J)|false=>rw[hx]at t1;exact iK<|(cO (M':=M2)<|dF (bR l1 t1) J).trans<|b7 J
 cases hx:xs.all i3 with
 |false=>rw[hx]at go;exact pre [MO.L<|xs.map D.str,MO.L<|xs.map λx=>D.bl<|i3 x] (go.trans<|by simp[M2,M1])|true=>
  rw[hx]at go;rcases hs hx M3 (B M2) (Zm _ _ _)with h3|⟨G,k,zs,h3,h4,h5⟩
  .refine pre [MO.L<|xs.map D.str,MO.L<|xs.map λx=>D.bl<|i3 x,MO.L<|ys.map D.str]<|go.trans ?_;rw[c_ J,show M++[MO.L<|xs.map D.str,MO.L<|xs.map λx=>D.bl<|i3 x,MO.L<|ys.map D.str]=M3 by simp[M3,M2,M1]];exact(Zi<|Zq<|dD s2 h3).trans (iK<|(cO (M':=M3)<|pM yz).trans<|b7 J)
  .refine pre ([MO.L<|xs.map D.str,MO.L<|xs.map λx=>D.bl<|i3 x,MO.L<|ys.map D.str]++G)<|go.trans ?_;rw[c_ J,show M++([MO.L<|xs.map D.str,MO.L<|xs.map λx=>D.bl<|i3 x,MO.L<|ys.map D.str]++G)=M3++G by simp[M3,M2,M1]];have hk4:(M3++G)[B M3+k]?=O (.L zs):=by rwa[qK]
   have Rh:(M3++G)[n]?=O (.L<|(h::ws).map D.str):=Zj (Zj ua _) _;have q3:e2 iJ ny kg [My n,c8 i8,My<|B M3+k] (M3++G)= .ok (.bl true) (M3++G):=by
    refine Zf (M2:=M3++G) (bR J<|jU hk4) (dF (M2:=M3++G) (Zf J J<|dO Rh (d:=.str h)<|cP _ 0) (d:=.int c) ?_) ?_
    .simp only[zP,hk]
    .simp only[iJ,rH,j3 h5];rfl
   exact(Zi<|Zq<|dD s2 h3).trans (iK<|(cO (M':=M3++G)<|(iZ (M1:=M3++G) yz).trans q3).trans<|b7 J)
abbrev jo:b9:=sv
abbrev qj:b9:=xS
abbrev xU:b9:=vx
structure Bk where
 r:Nat
 l:Nat
 h:b9
 hd:c9
 cl:List (Nat×c9)
 cn:Nat
 cur:c9
def Bk.rk(k:Bk):b9:=k.r::k.l::k.cn::k.cl.map (·.1)
theorem _root_.yk{p:Prop}(h:p:=by simp[Bk.rk]):p:=h
structure sJ(S:b3)(k:Bk):Prop where
 hr:S[k.r]?=O (.ins jo [(qj,.U<|.str k.h::k.hd),(xU,.ref k.l)])
 hl:S[k.l]?=O (.L<|(k.cl.map λp=>D.ref p.1)++[.ref k.cn])
 hc:∀p∈k.cl,S[p.1]?=O (.L p.2)
 hn:S[k.cn]?=O (.L k.cur)
variable{S':b3}
def sJ.congr{k:Bk}(H:sJ S k)(h:∀a∈k.rk,S'[a]?=S[a]?):sJ S' k:=⟨by rw[h _ yk];exact H.hr,by rw[h _ yk];exact H.hl,λp hp=>by rw[h _ (by simp only[Bk.rk];exact Yf _<|Yf _<|Yf _<|tM hp)];exact H.hc p hp,by rw[h _ yk];exact H.hn⟩
abbrev iT(ks:List Bk):b9:=ks.flatMap Bk.rk
structure dU(S:b3)(b:Nat)(ks:List Bk):Prop where
 hb:S[b]?=O (.L (ks.map λk=>D.ref k.r).reverse)
 hk:∀k∈ks,sJ S k
 nb:b∉iT ks
 nd:(iT ks).Nodup
def sJ.lt{k:Bk}(H:sJ S k):∀a∈k.rk,a<B S:=λa ha=>by
 have q:∀{i:Nat} {o:MO},S[i]?=O o->i<B S:=λh=>(Yg.mp h).1;simp only[Bk.rk,Yo,kZ]at ha;rcases ha with rfl|rfl|rfl|⟨p,hp,rfl⟩
 exact q H.hr;exact q H.hl;exact q H.hn;exact q<|H.hc p hp
variable{ks:List Bk}
def dU.lt{b:Nat}(H:dU S b ks):∀a∈iT ks,a<B S:=λa ha=>by let⟨k,hk,h⟩:=yM.mp ha;exact(H.hk k hk).lt a h
def dU.Dj{b:Nat}(H:dU S b ks):b<B S:=(Yg.mp H.hb).1
def dU.frame{b:Nat}(H:dU S b ks)(h:∀a∈b::iT ks,S'[a]?=S[a]?):dU S' b ks:=⟨by rw[h b Ye];exact H.hb,λk hk=>(H.hk k hk).congr λa ha=>h a<|Yf _<|yM.mpr ⟨k,hk,ha⟩,H.nb,H.nd⟩
def dU.app{b:Nat}(H:dU S b ks)(G:b3):dU (S++G) b ks:=
 H.frame λa ha=>Yk (by
  rcases Yo.mp ha with e|e
  .rw[e];exact H.Dj
  .exact H.lt a e)
def uD(k:Bk)(ks:List Bk):iT (k::ks)=k.rk++iT ks:=rfl
def dU.rest{b:Nat}{k:Bk}(H:dU S b (k::ks)):(∀j∈ks,sJ S j)/\b∉k.rk/\b∉iT ks/\k.rk.Nodup/\(iT ks).Nodup/\∀a∈k.rk,a∉iT ks:=by have nb:=H.nb;have nd:=H.nd;rw[uD]at nb nd;rw[gF]at nb;let⟨n1,n2,n3⟩:=NT.mp nd;exact⟨λj hj=>H.hk j<|Yf _ hj,λz=>nb<|.inl z,λz=>nb<|.inr z,n1,n2,λa ha hb=>n3 a ha a hb J⟩
def dU.more{b:Nat}{k:Bk}(H:dU S b (k::ks))(d:D):dU (S.set k.cn<|.L<|k.cur++[d]) b ({k with cur:=k.cur++[d]}::ks):=by
 let⟨h1,h2,h3,h4,h5,h6⟩:=H.rest;have hk:=H.hk k Ye;have Cn:k.cn∈k.rk:=by simp[Bk.rk]
 have Dk:k.r≠k.cn/\k.l≠k.cn/\k.cn∉k.cl.map (·.1):=by simp only[Bk.rk,lO,Yo,not_or]at h4;exact⟨h4.1.2.1,h4.2.1.1,h4.2.2.1⟩
 have o:∀a,a≠k.cn->(S.set k.cn<|.L<|k.cur++[d])[a]?=S[a]?:=λa ha=>Ys<|cu ha;refine⟨?_,?_,H.nb,H.nd⟩
 .rw[o b λe=>h2<|e▸Cn];exact H.hb
 .intro j hj;rcases Yo.mp hj with e|e
  .rw[e];refine⟨by rw[o _ Dk.1];exact hk.hr,by rw[o _ Dk.2.1];exact hk.hl,λp hp=>by rw[o _ λe=>Dk.2.2<|e▸tM hp];exact hk.hc p hp,?_⟩;exact Y4 (Yg.mp hk.hn).1
  .exact(h1 j e).congr λa ha=>o a λz=>h6 k.cn Cn<|yM.mpr ⟨j,e,z▸ha⟩
def dU.C4{b:Nat}{k:Bk}(H:dU S b (k::ks)):dU ((S++[MO.L []]).set k.l<|MO.L<|(k.cl.map λp=>D.ref p.1)++[D.ref k.cn]++[D.ref<|B S]) b ({k with cl:=k.cl++[(k.cn,k.cur)],cn:=B S,cur:=[]}::ks):=by
 let⟨h1,h2,h3,h4,h5,h6⟩:=H.rest;have hk:=H.hk k Ye;have hl:k.l∈k.rk:=by simp[Bk.rk]
 have Dk:k.r≠k.l/\k.cn≠k.l/\k.l∉k.cl.map (·.1):=by simp only[Bk.rk,lO,Yo,not_or]at h4;exact⟨h4.1.1,cu h4.2.1.1,h4.2.1.2⟩
 have o:∀a,a≠k.l->a<B S->((S++[MO.L []]).set k.l<|MO.L<|(k.cl.map λp=>D.ref p.1)++[D.ref k.cn]++[D.ref<|B S])[a]?=S[a]?:=λa ha j1=>by rw[Ys<|cu ha,Yk j1]
 have sh:∀a∈k.rk,a<B S:=hk.lt;have f9:k.l<B S:=sh _ hl;have fresh:B S∉iT (k::ks):=λz=>wM _<|H.lt _ z;have perm:(iT<|{k with cl:=k.cl++[(k.cn,k.cur)],cn:=B S,cur:=[]}::ks).Perm (B S::iT (k::ks)):=by rw[uD,uD];refine List.Perm.append_right (iT ks) (l₂:=B S::k.rk) ?_;simp only[Bk.rk,fX,Yw,uX];have p1:(k.r::k.l::B S::(k.cl.map (·.1)++[k.cn])).Perm (k.r::B S::k.l::(k.cl.map (·.1)++[k.cn])):=List.Perm.cons _<|List.Perm.swap _ _ _;refine p1.trans<|(List.Perm.swap _ _ _).trans<|List.Perm.cons _<|List.Perm.cons _<|List.Perm.cons _ ?_;exact List.perm_append_comm
 refine⟨?_,?_,?_,?_⟩
 .rw[o b (λe=>h2<|e▸hl) H.Dj];exact H.hb
 .intro j hj;rcases Yo.mp hj with e|e
  .rw[e];refine⟨by rw[o _ Dk.1<|sh _ yk];exact hk.hr,?_,?_,?_⟩
   .rw[Y4 (by rw[Yd];exact Ig _ f9)];simp
   .intro p hp;rcases gF.mp hp with q|q
    .rw[o _ (λe=>Dk.2.2<|e▸tM q)<|sh _ (by simp only[Bk.rk];exact Yf _<|Yf _<|Yf _<|tM q)];exact hk.hc p q
    .rw[Yx.mp q,o _ Dk.2.1<|sh _ yk];exact hk.hn
   .show _[B S]?=_;rw[Ys<|by exactλz=>by omega];exact Zm _ _ _
  .exact(h1 j e).congr λa ha=>o a (λz=>h6 k.l hl<|yM.mpr ⟨j,e,z▸ha⟩)<|H.lt a<|yM.mpr ⟨j,Yf _ e,ha⟩
 .intro z;rcases Yo.mp (perm.mem_iff.mp z)with e|e
  .have:=H.Dj;omega
  .exact H.nb e
 .exact perm.nodup_iff.mpr<|lO.mpr ⟨fresh,H.nd⟩
abbrev Ri(n:Nat)(h:b9)(hd:c9):Bk:=⟨n,n+2,h,hd,[],n+1,[]⟩
abbrev nObj(n:Nat)(h:b9)(hd:c9):b3:=[.ins jo [(qj,.U<|.str h::hd),(xU,.ref<|n+2)],.L [],.L [.ref<|n+1]]
def dU.push{b:Nat}(H:dU S b ks)(h:b9)(hd:c9):dU ((S++nObj (B S) h hd).set b<|.L<|(ks.map λk=>D.ref k.r).reverse++[.ref<|B S]) b (Ri (B S) h hd::ks):=by
 have hb:=H.Dj;have o:∀a,a≠b->a<B S->((S++nObj (B S) h hd).set b<|.L<|(ks.map λk=>D.ref k.r).reverse++[.ref<|B S])[a]?=S[a]?:=λa ha j1=>by rw[Ys<|cu ha,Yk j1]
 have n:∀j,((S++nObj (B S) h hd).set b<|.L<|(ks.map λk=>D.ref k.r).reverse++[.ref<|B S])[B S+j]?=(nObj (B S) h hd)[j]?:=λj=>by rw[Ys (by exactλz=>by omega),qK]
 refine⟨?_,?_,?_,?_⟩
 .rw[Y4 (by rw[Yd];exact Ig _ hb)];simp
 .intro j hj;rcases Yo.mp hj with e|e
  .rw[e];exact⟨(n 0).trans J,(n 2).trans J,nofun,(n 1).trans J⟩
  .exact(H.hk j e).congr λa ha=>o a (λz=>H.nb<|yM.mpr ⟨j,e,z▸ha⟩)<|H.lt a<|yM.mpr ⟨j,e,ha⟩
 .rw[uD];intro z;rcases gF.mp z with z|z
  .simp[Bk.rk]at z;omega
  .exact H.nb z
 .rw[uD];refine NT.mpr ⟨by simp[Bk.rk],H.nd,λa ha c hc e=>?_⟩;have:=H.lt c hc;simp[Bk.rk]at ha;omega
def dU.pop{b:Nat}{k:Bk}(H:dU S b (k::ks)):dU (S.set b<|.L (ks.map λk=>D.ref k.r).reverse) b ks:=by let⟨h1,h2,h3,h4,h5,h6⟩:=H.rest;exact⟨Y4 H.Dj,λj hj=>(h1 j hj).congr λa ha=>Ys λ(e:b=a)=>h3 (yM.mpr ⟨j,hj,by rwa[e]⟩),h3,h5⟩
def Rj{d:D}(hv:Zb i env M= .ok (.ref n) M)(h:M[n]?=O (.L<|xs++[d])):aU bK rJ (Zb i) Ze env M= .ok d (M.set n<|.L xs):=by simp only[aU,hv,R3.bind,Fw,h,Ze,if_true];rw[WR,h];simp
def m5{c f:b9}{fs:List (b9×D)}{d:D}(h:M[n]?=O (.ins c fs))(hf:fs.lookup f=O d):lC c f (.ref n) M= .ok d M:=by rw[TR,h];simp only[if_true,hf]
def sJ.head{k:Bk}(H:sJ S k):lC jo qj (.ref k.r) S= .ok (.U<|.str k.h::k.hd) S:=m5 H.hr J
def sJ.lists{k:Bk}(H:sJ S k):lC jo xU (.ref k.r) S= .ok (.ref k.l) S:=m5 H.hr J
def dU.last{b:Nat}{k:Bk}(H:dU S b (k::ks))(hv:Zb i env S= .ok (.ref b) S):e2 Zn (Zb i) nX env S= .ok (.ref k.r) S:=by refine Zf hv Au<|dO H.hb ?_;rw[Yw,yK];exact getD_last _ _
def Dl(h:b9):Int:=(cQ h qT).getD 0
def Bk.full(k:Bk):Bool:=decide<|Dl k.h=((B k.cl+1:Nat):Int)
def sO(w:b9):Bool:=(cQ w qT).isSome
def FE(k:Bk)(n:Nat)(w:b9):Bool:=if sO w then decide (n<=12)else if w=fV then decide (k.h=jd)&&!k.full else if w=iC then k.full else true
def jC{a b:b9}:aN (.str a) (.str b) M= .ok (.bl<|decide<|a=b) M:=by simp only[aN,vy]
def Zmc{b:Nat}{k:Bk}(H:dU S b (k::ks))(w:b9):Gs [.ref b,.str w] S= .ok (.bl<|FE k (B ks+1) w) S:=by
 have hk:=H.hk k Ye;refine(jT (M':=S) (env:=[My b,i5 w,Yj,Yj]) ?_).trans (TC J);unfold ZZ;refine(Zi<|Zq<|H.last J).trans ?_;have h0:∀{a:Option D},e2 Zn (e1 (lC jo qj)<|Zb 2) pz [My b,i5 w,My k.r,a] S= .ok (.str k.h) S:=Zf (dF J hk.head) J<|zr<|cP _ 0;have AdY:e2 aN (e2 (xu qT) (e2 Zn (e1 (lC jo qj)<|Zb 2) pz) pz) (aD aV<|Za (e1 (lC jo xU)<|Zb 2) Ze) [My b,i5 w,My k.r,Yj] S= .ok (.bl k.full) S:=by
  refine Zf (Zf h0 J (d:=.int<|Dl k.h) (M3:=S) ?_) (bR (dF J hk.lists)<|jU hk.hl) ?_
  .show(match cQ k.h qT with|some i=>R3.ok (D.int i) S|none=>R3.ok (D.int 0) S)=_
   unfold Dl;cases cQ k.h qT<;>rfl
  .simp only[aN,rH,Yd,Ym,Y8];rfl
 refine(Zi<|Zq AdY).trans ?_;have y3:e1 (xN qT) (Zb 1) [My b,i5 w,My k.r,O<|.bl k.full] S= .ok (.bl<|sO w) S:=dF J J;unfold FE;by_cases h1:sO w=true
 .rw[c_ h1];rw[h1]at y3;refine iK<|(cO y3).trans<|b7<|Zf (bR J<|jU H.hb) (g:=Ad) (b:=.int 12) J ?_;rw[Qc];congr 3;simp only[H_,Ym,Yp];exact propext ⟨λz=>by omega,λz=>by omega⟩
 rw[d4 h1];rw[L7]at h1;rw[h1]at y3;refine(Zi<|cZ y3).trans ?_;by_cases h2:w=fV
 .rw[c_ h2];refine iK ((cO (M':=S)<|Zf J J<|jC.trans<|by rw[j2 h2]).trans<|b7 ?_);by_cases h3:k.h=jd
  .rw[jV (M1:=S) (Zf h0 J<|jC.trans<|by rw[j2 h3]),j2 h3];rfl
  .rw[pN (M1:=S) (Zf h0 J<|jC.trans<|by rw[j3 h3]),j3 h3];rfl
 rw[d4 h2];refine(Zi<|cZ (M':=S)<|Zf J J<|jC.trans<|by rw[j3 h2]).trans ?_;by_cases h3:w=iC
 .rw[c_ h3];exact iK ((cO (M':=S)<|Zf J J<|jC.trans<|by rw[j2 h3]).trans<|b7 J)
 .rw[d4 h3];exact(Zi<|cZ (M':=S)<|Zf J J<|jC.trans<|by rw[j3 h3]).trans (b7 J)
variable{j:Nat}
def FF{d:D}{o:MO}(hj:j<B M)(ho:M'[j]?=O o)(hb:zq (B M) o=false)(qA:M[j]?≠O o):gj M d M'= .ok d M':=by
 have ht:(M'.take<|B M)[j]?=O o:=by rwa[yJ hj]
 have h1:decide (M'.take (B M)=M)=false:=j3 λe=>qA (by rwa[e]at ht);have h2:(M'.take<|B M).all (zq<|B M)=false:=by rw[LZ];intro z;have:=jh.mp z o<|Ay ht;rw[hb]at this;cases this
 unfold gj;rw[h1,h2];simp
def m9{d:D}(hl:B M<=B M'):∃S,gj M d M'= .ok d S/\M.length<=B S/\∀a,a<B M->S[a]?=M'[a]?:=by
 unfold gj;split
 .exact⟨_,rfl,by rw[lM];omega,λa ha=>yJ ha⟩
 .exact⟨_,rfl,hl,λa _=>rfl⟩
structure sS(S S':b3)(b:Nat)(ks:List Bk):Prop where
 len:B S<=S'.length
 old:∀a,a<B S->a∉b::iT ks->S'[a]?=S[a]?
theorem Rk{n m:Nat}(h:n<=m):∀{l:c9},D.ref m∈l->eN n l=false
 |d::l,hm=>by
  show(below n d&&eN n l)=false;rcases Yo.mp hm with e|e
  .rw[<-e,show below n (.ref m)=decide (m<n)from rfl,j3<|by exactλz=>by omega];rfl
  .rw[Rk h e,mj]
def i7{e:E3}{hd:c9}(he:e env S= .ok (.U<|.str h::hd) S):BX jo zQ (Za e Ze) env S= .ok (.ref<|B S) (S++nObj (B S) h hd):=by
 have hg:(Za e Ze) env S= .ok [.U<|.str h::hd] S:=Zo he J;have hF:zQ [.ref<|B S,.U<|.str h::hd] (S++[.ins jo []])= .ok .Z (S++nObj (B S) h hd):=by
  have s1:Jx jo qj (Zb 0) (Zb 1) [My<|B S,O<|.U<|.str h::hd] (S++[.ins jo []])= .nx [My<|B S,O<|.U<|.str h::hd] (S++[.ins jo [(qj,.U<|.str h::hd)]]):=by refine uf (d:=.Z)<|Zf J J ?_;rw[W6,Zm];simp[zA]
  have s2:Jx jo xU (Zb 0) (Zz oj) [My<|B S,O<|.U<|.str h::hd] (S++[.ins jo [(qj,.U<|.str h::hd)]])= .nx [My<|B S,O<|.U<|.str h::hd] (S++nObj (B S) h hd):=by
   have l1:Zz oj [My<|B S,O<|.U<|.str h::hd] (S++[.ins jo [(qj,.U<|.str h::hd)]])= .ok (.ref<|B S+2) (S++[.ins jo [(qj,.U<|.str h::hd)],.L [],.L [.ref<|B S+1]]):=by
    refine(bM (M':=S++[.ins jo [(qj,.U<|.str h::hd)],.L []]) (ds:=[.ref<|B S+1]) (Zo ((bM J J).trans ?_) J) J).trans ?_
    .simp
    .simp
   refine uf (d:=.Z)<|Zf l1 J ?_;rw[W6,Zm];have:=Qe S [MO.ins jo [(qj,.U<|.str h::hd)],.L [],.L [.ref<|B S+1]] 0<|.ins jo [(qj,.U<|.str h::hd),(xU,.ref<|B S+2)];rw[Od]at this;simp[zA,this]
  refine(Ju (M':=S++nObj (B S) h hd) (env:=[My<|B S,O<|.U<|.str h::hd])<|(Zi s1).trans s2).trans ?_;refine FF (j:=B S) (o:=.ins jo [(qj,.U<|.str h::hd),(xU,.ref<|B S+2)]) i9 (Zm _ _ _) ?_ ?_
  .show eN _ [.U<|.str h::hd,.ref<|B S+2]=false;exact Rk (m:=B S+2) i9 i9
  .rw[Zm];simp
 simp only[BX,hg,R3.bind,hF]
section
variable {S:b3} {b:Nat} {k:Bk} {ks:List Bk} {w:b9} {d:c9}
def xV{v:Option D}{x:Option D}:e2 Zn (Zb 1) pz [My b,O<|.U<|.str w::d,v,x] S= .ok (.str w) S:=Zf J J<|zr<|cP _ 0
def sS.AeU{o:MO}(h:n∈b::iT ks):sS S (S.set n o) b ks:=⟨by rw[tQ];exact Yu _,λa _ ha=>Ys λ(e:n=a)=>ha<|e▸h⟩
def sS.setG{o:MO}{G:b3}(h:n∈b::iT ks):sS S ((S++G).set n o) b ks:=⟨by rw[tQ,Yd];exact iG _ _,λa hl ha=>by rw[Ys λ(e:n=a)=>ha<|e▸h,Yk hl]⟩
def ZzR:k.cn∈b::iT (k::ks):=Yf _<|pB _ yk
def AeV:k.l∈b::iT (k::ks):=Yf _<|pB _ yk
def ZmM(H:dU S b (k::ks))(h1:sO w=false)(h2:w≠fV)(h3:w≠iC)(hz:B k.cur<1000):
  ∃S',xR [.ref b,.U<|.str w::d] S= .ok .Z S'/\dU S' b ({k with cur:=k.cur++[.U<|.str w::d]}::ks)/\sS S S' b (k::ks):=by
 have hk:=H.hk k Ye;refine⟨_,(Ju (M':=S.set k.cn<|.L<|k.cur++[.U<|.str w::d]) (env:=[My b,O<|.U<|.str w::d,Yj,Yj]) (env':=[My b,O<|.U<|.str w::d,My k.r,Yj]) ?_).trans<|Zr6<|tQ ..,H.more _,sS.AeU ZzR⟩;unfold Cz;refine(Zi<|Zq<|H.last J).trans ?_;refine(mz (M':=S)<|dF xV (by show R3.ok (D.bl<|sO w) S=_;rw[h1])).trans ?_;refine(mz (M':=S)<|Zf xV J<|jC.trans<|by rw[j3 h2]).trans ?_;refine(mz (M':=S)<|Zf xV J<|jC.trans<|by rw[j3 h3]).trans ?_;exact p_ (M':=S) (Zf (dF J hk.lists) Au<|dO hk.hl<|getD_last _ _) hk.hn J hk.hn<|mX hz aaA
def ZqN(H:dU S b (k::ks))(h1:sO w=true)(hz:B ks<100):
  ∃S',xR [.ref b,.U<|.str w::d] S= .ok .Z S'/\dU S' b (Ri (B S) w d::k::ks)/\sS S S' b (k::ks):=by
 have j1:=H.Dj;refine⟨_,(Ju (M':=(S++nObj (B S) w d).set b<|.L<|((k::ks).map λk=>D.ref k.r).reverse++[.ref<|B S]) (env:=[My b,O<|.U<|.str w::d,Yj,Yj]) (env':=[My b,O<|.U<|.str w::d,My k.r,Yj]) ?_).trans (FF (j:=b) j1 (Y4 (by rw[Yd];exact Ig _ j1)) (Rk (m:=B S) (Yu _)<|Y2 _ Ye) ?_),H.push w d,sS.setG Ye⟩
 .unfold Cz;refine(Zi<|Zq<|H.last J).trans ?_;refine(cO (M':=S)<|dF xV (by show R3.ok (D.bl<|sO w) S=_;rw[h1])).trans ?_;exact p_ (M':=S) J H.hb (i7 (h:=w) (hd:=d) J) (Zj H.hb _) (by simp only[H_,Ym,Yp];exact mX (show B ks+1<1000 by omega) aaA)
 .rw[H.hb];intro e;have:=congrArg (λo:Option MO=>match o with|some (.L x)=>B x|_=>0) e;simp at this
def Zqr(H:dU S b (k::ks))(hz:B k.cl<100):
  ∃S',xR [.ref b,.U<|.str fV::d] S= .ok .Z S'/\dU S' b ({k with cl:=k.cl++[(k.cn,k.cur)],cn:=B S,cur:=[]}::ks)/\sS S S' b (k::ks):=by
 have hk:=H.hk k Ye;have j1:k.l<B S:=hk.lt _ yk;refine⟨_,(Ju (M':=(S++[MO.L []]).set k.l<|MO.L<|(k.cl.map λp=>D.ref p.1)++[D.ref k.cn]++[D.ref<|B S]) (env:=[My b,O<|.U<|.str fV::d,Yj,Yj]) (env':=[My b,O<|.U<|.str fV::d,My k.r,Yj]) ?_).trans (FF (j:=k.l) j1 (Y4 (by rw[Yd];exact Ig _ j1)) (Rk (m:=B S) (Yu _)<|Y2 _ Ye) ?_),H.C4,sS.setG AeV⟩
 .unfold Cz;refine(Zi<|Zq<|H.last J).trans ?_;refine(mz (M':=S)<|dF xV J).trans ?_;refine(cO (M':=S)<|Zf xV J<|jC.trans<|by rw[j2 J]).trans ?_;exact p_ (M':=S) (dF J hk.lists) hk.hl tw (Zj hk.hl _) (by simp only[Yd,Ym,Y8];exact mX (show B k.cl+1<1000 by omega) aaA)
 .rw[hk.hl];intro e;have:=congrArg (λo:Option MO=>match o with|some (.L x)=>B x|_=>0) e;simp at this
def Bk.whole(k:Bk):D:=.U<|.str k.h::k.hd++(k.cl++[(k.cn,k.cur)]).map λp=>D.U p.2
def Zq7{k2:Bk}(H:dU S b (k::k2::ks))(hz:B k.cl<100)(hd:B k.hd<100)(hc:B k2.cur<1000):
  ∃S',xR [.ref b,.U<|.str iC::d] S= .ok .Z S'/\dU S' b ({k2 with cur:=k2.cur++[k.whole]}::ks)/\sS S S' b (k::k2::ks):=by
 have hk:=H.hk k Ye
 let S1:=S.set b<|.L ((k2::ks).map λk=>D.ref k.r).reverse
 have H1:dU S1 b (k2::ks):=H.pop;have ym:sJ S1 k:=hk.congr λa ha=>Ys λ(e:b=a)=>H.rest.2.1 (by rwa[e])
 let S2:=S1++[MO.L<|(k.cl++[(k.cn,k.cur)]).map λp=>D.U p.2]
 have H2:dU S2 b (k2::ks):=H1.app _;have C5:=H2.hk k2 Ye
 let S3:=S2.set k2.cn<|.L<|k2.cur++[k.whole]
 have H3:dU S3 b ({k2 with cur:=k2.cur++[k.whole]}::ks):=H2.more _;have hl3:B S<=B S3:=by simp[S3,S2,S1]
 have lc:gU (eG<|e1 (lC jo xU)<|Zb 2) 1 (cV 4) [] mP [My b,O<|.U<|.str iC::d,My k.r,Yj] S1= .ok (.ref<|B S1) S2:=by
  refine Fh (enc:=λp:Nat×c9=>D.ref p.1) (h:=λp=>D.U p.2) (as:=k.cl++[(k.cn,k.cur)]) (M1:=S1) (lock:=O k.l) (λe=>∃a1 a2 a3 a4 a5,e=[a1,a2,a3,a4,a5]) ?_ ?_ ⟨_,_,_,_,_,rfl⟩ ?_ r0
  .show(e1 (lC jo xU) (Zb 2) _ _).bind _=_;rw[dF (d:=.ref k.l) J ym.lists];simp only[R3.bind,ym.hl,fX];rfl
  .intro n hn;cases hn;rw[fX];exact ym.hl
  .intro p hp env ⟨a1,a2,a3,a4,a5,e⟩;subst e;refine⟨_,rfl,⟨_,_,_,_,_,rfl⟩,λx=>bR J<|vD<|Zj ?_ _⟩;rcases gF.mp hp with q|q
   .exact ym.hc p q
   .rw[Yx.mp q];exact ym.hn
 have main:Cz [My b,O<|.U<|.str iC::d,Yj,Yj] S= .nx [My b,O<|.U<|.str iC::d,My k.r,O k.whole] S3:=by
  unfold Cz;refine(Zi<|Zq<|H.last J).trans ?_;refine(mz (M':=S)<|dF xV J).trans ?_;refine(mz (M':=S)<|Zf xV J<|jC.trans<|by rw[j3 aaA]).trans ?_;refine(cO (M':=S)<|Zf xV J<|jC.trans<|by rw[j2 J]).trans ?_;have hb:S[b]?=O (.L<|((k2::ks).map λk=>D.ref k.r).reverse++[D.ref k.r]):=by rw[H.hb,Yw,yK]
  refine(Zi<|uf<|Rj J hb).trans ?_;refine(Zi<|Zq (d:=k.whole) (M':=S2)<|Zf (dF J ym.head) (bR lc<|vD<|Zm S1 _ []) ?_).trans ?_
  .rw[SH];refine c_ ?_;simp only[Yp,Ym,Yd,Er];exact Yi (show _<=1000 by omega) aaA
  .exact p_ (M':=S2) (Zf (dF (H2.last J) C5.lists) Au<|dO C5.hl<|getD_last _ _) C5.hn J C5.hn<|mX hc aaA
 let⟨S',e,l1,o1⟩:=m9 (M:=S) (M':=S3) (d:=.Z) hl3;have old:∀a,a<B S->a∉b::iT (k::k2::ks)->S3[a]?=S[a]?:=λa j1 ha=>by have n1:k2.cn≠a:=λz=>ha (Yf _ (by rw[uD,uD,<-z];exact Y2 _<|pB _ yk));have n2:b≠a:=λz=>ha (by rw[z];exact Ye);show(S2.set k2.cn _)[a]?=_;rw[Ys n1];show(S1++_)[a]?=_;rw[Yk (by simp[S1];exact j1)];exact Ys n2
 refine⟨S',(Ju main).trans e,H3.frame λa ha=>o1 a ?_,l1,λa hl ha=>(o1 a hl).trans<|old a hl ha⟩;rcases Yo.mp ha with z|z
 .rw[z];exact H.Dj
 .refine H.lt a ?_;rw[uD];exact Y2 _ z
end
def xW{f:E3}{d:D}(h:f env M= .ok d M'):pR f env M= .ok d M':=by simp only[pR,h]
def Zt2{f:d_}{d:c9}(h:f env M= .ok d M'):oK f env M= .ok d M':=by simp only[oK,h]
def oZ{f:S3}{e:bO}(h:f env M= .nx e M'):fK f env M= .nx e M':=by rw[fK,h]
def ZxU{f:S3}{d:D}(h:f env M= .rt d M'):fK f env M= .rt d M':=by rw[fK,h]
def GJ{f g:S3}{x:X3}(h:f env M= .exc x M'):Zt f g env M= .exc x M':=by rw[Zt,h]
def GK{ps:Nat}{body:S3}{x:X3}(h:body env M= .exc x M')(hl:B ds=ps:=by rfl)(he:ds.map O++Yq (n-ps) Yj=env:=by rfl):cR ps n body ds M= .exc x M':=by subst he;rw[cR,c_ hl,h]
def ZqX{f:E3}{x:X3}(h:f env M= .exc x M'):bC f env M= .exc x M':=by rw[bC,h]
def Zsj{f:E3}{x:X3}(h:f env M= .exc x M'):aC i f env M= .exc x M':=by rw[aC,h]
def ZrB{cs:d6}{b g:S3}{env e1 e2:bO}{M M' M2:b3}{x:X3}(h:b env M= .exc x M')(hc:cs.contains x.cls=true)(hg:g (env.set j<|O x.arg) M'= .nx e1 M2)(he:e1.set j Yj=e2):Jy cs j b g env M= .nx e2 M2:=by rw[Jy,h];simp only[hc,if_true,hg,he]
def Zvy{yes no:d6}{c:b9}{fs:List (b9×D)}(h:M[n]?=O (.ins (0::c) fs))(hy:yes.contains c=true):oM yes no (.ref n) M= .ok (.bl true) M:=by simp only[W7,h,hy,if_true]
def Zvc{yes no:d6}{c:b9}{fs:List (b9×D)}(h:M[n]?=O (.ins (0::c) fs))(hy:yes.contains c=false)(hn:no.contains c=true):oM yes no (.ref n) M= .ok (.bl false) M:=by simp only[W7,h,hy,hn,if_true,yR,if_false]
structure Pf where
 h:b9
 hd:c9
 cl:sA
 cur:c9
def Bk.pf(k:Bk):Pf:=⟨k.h,k.hd,k.cl.map (·.2),k.cur⟩
def Pf.whole(k:Pf):D:=.U<|.str k.h::k.hd++(k.cl++[k.cur]).map D.U
def ZsR(k:Bk):k.whole=k.pf.whole:=by simp[Bk.whole,Pf.whole,Bk.pf]
def Rw.tl(r:Rw):c9:=r.xs.map D.str++r.ts.map λt=>D.U t.flat
def c7(r:Rw):r.n5= .str r.h::r.tl:=rfl
def stepK(r:Rw)(k:Pf)(fs:List Pf):Option (List Pf):=if sO r.h=true then(if B fs+1<=12 then O (⟨r.h,r.tl,[],[]⟩::k::fs)else Yj)
  else if r.h=fV then(if k.h=jd/\k.cl=[]then O (⟨k.h,k.hd,[k.cur],[]⟩::fs)else Yj)
  else if r.h=iC then(match fs with
   |[]=>Yj|k2::fs=>if Dl k.h=((B k.cl+1:Nat):Int)/\k.hd.length<100/\k.cl.length<100/\k2.cur.length<1000 then O (⟨k2.h,k2.hd,k2.cl,k2.cur++[k.whole]⟩::fs)else Yj)
  else if B k.cur<1000 then O (⟨k.h,k.hd,k.cl,k.cur++[.U r.n5]⟩::fs)else Yj
def mJ(r:Rw):List Pf->Option (List Pf)
 |[]=>Yj|k::fs=>stepK r k fs
structure Dm(M S:b3)(b:Nat)(ks:List Bk):Prop where
 bk:dU S b ks
 len:B M<=S.length
 pre:∀a,a<B M->S[a]?=M[a]?
 hi:∀a∈b::iT ks,B M<=a
def Dm.next{b:Nat}{AY:List Bk}(I:Dm M S b ks)(h:dU S' b AY)(st:sS S S' b ks)(ha:∀a∈iT AY,a∈iT ks\/S.length<=a):Dm M S' b AY:=
 ⟨h,Yi I.len st.len,λa hl=>(st.old a (Y5 hl I.len) λz=>by have:=I.hi a z;omega).trans<|I.pre a hl,λa z=>by
  rcases Yo.mp z with e|e
  .exact I.hi a (by rw[e];exact Ye)
  .rcases ha a e with q|q
   .exact I.hi a<|Yf _ q
   .exact Yi I.len q⟩
def ZoG{b:Nat}(I:Dm M S b ks){fs:List Pf}(hp:mJ r (ks.map Bk.pf)=O fs):
  Gs [.ref b,.str r.h] S= .ok (.bl true) S/\∃S' AY,xR [.ref b,.U r.n5] S= .ok .Z S'/\Dm M S' b AY/\AY.map Bk.pf=fs:=by
 cases ks with
 |nil=>cases hp|cons k ks=>
  rw[Zmc I.bk r.h];rw[Yw]at hp;have hp:stepK r k.pf (ks.map Bk.pf)=O fs:=hp;unfold stepK at hp;unfold FE;by_cases h1:sO r.h=true
  .rw[c_ h1]at hp |-;by_cases hl:B (ks.map Bk.pf)+1<=12
   .rw[c_ hl]at hp;rw[Ym]at hl;let⟨S',e,q1,q2⟩:=ZqN (d:=r.tl) I.bk h1 b5;refine⟨by rw[j2 hl],S',_,e,I.next q1 q2 λa ha=>?_,fM hp⟩;rw[uD]at ha;rcases gF.mp ha with z|z
    .right;simp[Bk.rk]at z;omega
    .exact .inl z
   .rw[d4 hl]at hp;cases hp
  rw[d4 h1]at hp |-;rw[L7]at h1;by_cases h2:r.h=fV
  .rw [c_ h2]at hp |-;by_cases hc:k.pf.h=jd/\k.pf.cl=[]
   .rw[c_ hc]at hp;have u7:k.cl=[]:=NK.mp hc.2;have hh:k.h=jd:=hc.1;let⟨S',e,q1,q2⟩:=Zqr (d:=r.tl) I.bk (by rw[u7];decide);have hf:k.full=false:=by unfold Bk.full;rw[hh,u7];rfl
    refine⟨by rw[j2 hh,hf];rfl,S',_,by rwa[c7,h2],I.next q1 q2 λa ha=>?_,?_⟩
    .rw[uD]at ha |-;rcases gF.mp ha with z|z
     .simp only[Bk.rk,u7,jw,Yw,uX,Yo,rm,or_false]at z;rcases z with z|z|z|z
      exact .inl (pB _<|by simp[Bk.rk,z]);exact .inl (pB _<|by simp[Bk.rk,z]);exact .inr<|lR z.symm;exact .inl (pB _<|by simp[Bk.rk,z])
     .exact .inl<|Y2 _ z
    .rw[<-fM hp,Yw];simp[Bk.pf,u7]
   .rw[d4 hc]at hp;cases hp
  rw[d4 h2]at hp |-;by_cases h3:r.h=iC
  .rw [c_ h3]at hp |-;cases ks with
   |nil=>cases hp|cons k2 ks=>
    simp only[Yw]at hp;by_cases hc:Dl k.pf.h=((B k.pf.cl+1:Nat):Int)/\k.pf.hd.length<100/\k.pf.cl.length<100/\k2.pf.cur.length<1000
    .rw[c_ hc]at hp;have u7:B k.pf.cl=B k.cl:=Ym _;let⟨c1,c2,c3,Znr⟩:=hc;rw[u7]at c1 c3;let⟨S',e,q1,q2⟩:=Zq7 (d:=r.tl) I.bk c3 c2 Znr;refine⟨by rw[show k.full=true from j2 c1],S',_,by rwa[c7,h3],I.next q1 q2 λa ha=>?_,?_⟩
     .left;rw[uD];exact Y2 _ ha
     .rw[<-fM hp,Yw,ZsR];rfl
    .rw[d4 hc]at hp;cases hp
  rw[d4 h3]at hp |-;by_cases hc:B k.pf.cur<1000
  .rw[c_ hc]at hp;let⟨S',e,q1,q2⟩:=ZmM (d:=r.tl) I.bk h1 h2 h3 hc;exact⟨rfl,S',_,e,I.next q1 q2 λa ha=>.inl ha,fM hp⟩
  .rw[d4 hc]at hp;cases hp
def lF:List Rw->List Pf->Option (List Pf)
 |[],fs=>O fs|r::rs,fs=>(mJ r fs).bind<|lF rs
abbrev nJ:b9:=sC
abbrev uE:b9:=xI
def FG{c f:b9}{M M1:b3}{i:Int}(h:g env M= .ok [.int i] M1)(hi:i.natAbs.log2<1000):sy c f g env M= .exc ⟨c,.ref<|B M1⟩ (M1++[.ins (0::c) [(f,.int i)]]):=by simp only[sy,h,c_ hi]
def ZtI{i:I3}{g:G3}{u:S3}{it:ir}(h:i env M= .ok it M'):Jz i g u env M=iz it g u it.items env M':=by rw[Jz,h]
abbrev Rm:S3:=Zt (fK<|aC 5<|aJ Cy oB)<|Zt (aG dC (sy nJ uE oz)<|fK aW) iL
abbrev lG:b9:=[112,114,111,103,114,97,109]
abbrev GP(q:Int×Nat×Rw):D:=.U [.int q.1,.ref q.2.1]
structure Lt(n:Nat)(fs:List Pf):Prop where
 ea:∀k∈fs,B k.cur<=n/\k.hd.length<100/\k.cl.length<=1
 lo:∃gs k,fs=gs++[k]/\k.h=lG/\k.cl=[]
def Lt.one:Lt 0 [⟨lG,[],[],[]⟩]:=⟨λk hk=>by rw[Yx.mp hk];exact⟨Yu _,(by decide:(0:Nat)<100),g_ _⟩,[],_,rfl,rfl,rfl⟩
def Zxw(M:b3):Dm M (M++nObj (B M) lG []++[.L [.ref<|B M]]) (B M+3) [Ri (B M) lG []]:=by
 have n:∀j,(M++nObj (B M) lG []++[.L [.ref<|B M]])[B M+j]?=(nObj (B M) lG []++[.L [.ref<|B M]])[j]?:=λj=>by rw[ju,qK]
 refine⟨⟨(n 3).trans J,λk hk=>?_,?_,?_⟩,i9,λa ha=>by rw[ju,Yk ha],λa ha=>?_⟩
 .rw[Yx.mp hk];exact⟨(n 0).trans J,(n 2).trans J,nofun,(n 1).trans J⟩
 .simp[iT,Bk.rk]
 .simp[iT,Bk.rk]
 .simp[iT,Bk.rk]at ha;omega
def mK(M:b3)(z:Int)(o:R3 D):Prop:=∃S':b3,o= .exc ⟨nJ,.ref<|B S'⟩ (S'++[.ins (0::nJ) [(uE,.int z)]])/\M.length<=B S'/\∀a,a<B M->S'[a]?=M[a]?
def k7{M:b3}{b:Nat}{it:ir}(hit:∀S,(∀a,a<B M->S[a]?=M[a]?)->locked it S=true){v0 v1:Option D}{i:Int}{p:Nat}{wb:d6}{rest:c9}(hi:i.natAbs.log2<1000)(hp:M[p]?=O (.L<|wb.map D.str))(hb:Aa wb):
  ∀(L:List (Int×Nat×Rw)) (S:b3) (ks:List Bk) (fs:List Pf) (x3 x4 x5:Option D),Dm M S b ks->lF (L.map (·.2.2)) (ks.map Bk.pf)=O fs->(∀q∈L,M[q.2.1]?=O (.L<|q.2.2.words.map D.str)/\gJ q.2.2) ->
  ∃S':b3,iz it (oH [3,4]) Rm (L.map GP++ .U [.int i,.ref p]::rest) [v0,v1,My b,x3,x4,x5] S= .exc ⟨nJ,.ref<|B S'⟩ (S'++[.ins (0::nJ) [(uE,.int i)]])/\M.length<=B S'/\∀a,a<B M->S'[a]?=M[a]?
 | [],S,ks,fs,x3,x4,x5,I,_,_=>by refine⟨S,?_,I.len,I.pre⟩;have hS:S[p]?=O (.L<|wb.map D.str):=(I.pre _ (Yg.mp hp).1).trans hp;show iz it (oH [3,4]) Rm (.U [.int i,.ref p]::rest) _ S=_;rw[rK,c_<|hit S I.pre];simp only[oH,Jr,Jq,qx,qy];have hx:Rm [v0,v1,My b,c8 i,My p,x5] S= .exc ⟨nJ,.ref<|B S⟩ (S++[.ins (0::nJ) [(uE,.int i)]]):=(Zi<|oZ<|Zq<|dD J<|hb S p hS).trans<|GJ<|(cO (M':=S)<|xW<|pM yz).trans<|FG J hi;rw[hx]|q::L,S,ks,fs,x3,x4,x5,I,hr,hL=>by
  let⟨hw,ok⟩:=hL q Ye;have hwS:S[q.2.1]?=O (.L<|q.2.2.words.map D.str):=(I.pre _ (Yg.mp hw).1).trans hw;rw[Yw]at hr;cases hs:mJ q.2.2 (ks.map Bk.pf)with
  |none=>unfold lF at hr;rw[hs]at hr;cases hr|some f1=>
   let⟨c1,S1,k1,p1,I1,e1⟩:=ZoG I hs;let⟨S',h,h1,h2⟩:=k7 (v0:=v0) (v1:=v1) hit hi hp hb L S1 k1 fs (c8 q.1) (My q.2.1) (O<|.U q.2.2.n5) I1 (by unfold lF at hr;rw[hs]at hr;rwa[e1]) λp hp=>hL p<|Yf _ hp;refine⟨S',?_,h1,h2⟩;have hx:Rm [v0,v1,My b,c8 q.1,My q.2.1,x5] S= .nx [v0,v1,My b,c8 q.1,My q.2.1,O<|.U q.2.2.n5] S1:=by refine(Zi<|oZ<|Zq<|dD J<|ZmC ok hwS).trans ?_;refine(Zi<|(mz (M':=S)<|xW<|(iZ (M1:=S) yz).trans<|dF (Fy J (Zf J J<|zr<|cP _ 0) c1) J).trans<|oZ J).trans ?_;exact oZ<|uf<|Fy J J p1
   rw[Yw,yL,rK,c_<|hit S I.pre];simp only[oH,Jr,Jq,qx,qy];rwa[hx]
variable{z:Int}{wb:d6}{p:Nat}
def Zla{L:List (Int×Nat×Rw)}{i:Int}{rest:c9}{fs:List Pf}(hn:M[n]?=O (.L<|L.map GP++ .U [.int i,.ref p]::rest))(hi:i.natAbs.log2<1000)(hp:M[p]?=O (.L<|wb.map D.str))(hb:Aa wb)(hr:lF (L.map (·.2.2)) [⟨lG,[],[],[]⟩]=O fs)(hL:∀q∈L,M[q.2.1]?=O (.L<|q.2.2.words.map D.str)/\gJ q.2.2):
  mK M i (uy [.ref n,.int z] M):=by
 let S0:=M++nObj (B M) lG []++[MO.L [.ref<|B M]]
 have hnl:=(Yg.mp hn).1;have I:=Zxw M;let⟨S',h,h1,h2⟩:=k7 (M:=M) (it:=⟨L.map GP++ .U [.int i,.ref p]::rest,O n⟩) (λS hS=>j2<|(hS n hnl).trans hn) (v0:=My n) (v1:=c8 z) (rest:=rest) hi hp hb L S0 [Ri (B M) lG []] fs Yj Yj Yj I hr hL;have m1:=i7 (env:=[My n,c8 z,Yj,Yj,Yj,Yj]) (S:=M) (e:=ji<|Za (eC<|.str lG) Ze) (h:=lG) (hd:=[])<|qL J J;have h0:fK (aC 2<|Zz<|Za (BX jo zQ<|Za (ji<|Za (eC<|.str lG) Ze) Ze) Ze) [My n,c8 z,Yj,Yj,Yj,Yj] M= .nx [My n,c8 z,My<|B M+3,Yj,Yj,Yj] S0:=oZ (Zq (d:=.ref<|B M+3) (M':=S0)<|(bM (Zo m1 J) J).trans<|by simp[S0]);refine⟨S',GK (env:=[My n,c8 z,Yj,Yj,Yj,Yj]) ?_,h1,h2⟩;unfold Z0;exact(Zi h0).trans (GJ<|(ZtI<|GD J<|(I.pre n hnl).trans hn).trans h)
def bQ:Option d6->b9
 |none=>[]|some ws=>glue [32] ws
structure sU(ws:d6):Prop where
 ne:ws≠[]
 fr:∀w∈ws,32∉w/\10∉w
 ZmN:glue [32] ws≠[]
 le:B (glue [32] ws)<=10000
def rowsOf:Nat->List (Option d6)->List (Int×d6)
 |_,[]=>[]|k,Yj::r=>rowsOf (k+1) r|k,O ws::r=>((k:Nat),ws)::rowsOf (k+1) r
def j9(n:Nat):List (Int×d6)->c9
 |[]=>[]|q::r=>.U [.int q.1,.ref n]::j9 (n+1) r
abbrev ql(L:List (Int×d6)):b3:=L.map λq=>MO.L<|q.2.map D.str
abbrev cX:E3:=ji fN
def Lg{ty:D->b3->Bool}{me:D->c9->b3->R3 D}{o:E3}{M M1 M2 M3:b3}{a d:D}(h1:o env M= .ok a M1)(hi:ty a M1=true)(h2:g env M1= .ok ds M2)(h3:me a ds M2= .ok d M3):aU ty me o g env M= .ok d M3:=by simp only[aU,h1,R3.bind,hi,if_true,h2,h3]
def FH{x:b9}(h:B x<=900000):xq (.str x) [.str [c]] M= .ok (.ref<|B M) (M++[.L<|(pO x [c]).map D.str]):=by rw[TM,c_ ⟨i9,Yi (show B x+2<=1000000 by omega) aaA⟩];rfl
def FI{M:b3}{lk:List (Nat×c9)}(yi:lA lk M=true):∀(Ls:List (Option d6)) (k:Nat) (acc:c9) (W:b3) (v0 v1 v2 v3 x y:Option D),(∀ws,O ws∈Ls->sU ws)->B acc+B Ls<=10000 ->
  lB lk (oH [4,5]) [e2 iJ (Zb 5) pj] cX (B M) (oJ k<|Ls.map λl=>D.str<|bQ l) [v0,v1,v2,v3,x,y] (M++ .L acc::W)
   = .ok (.ref<|B M) (M++ .L (acc++j9 (B M+1+B W) (rowsOf k Ls))::(W++ql (rowsOf k Ls)))
 |[],k,acc,W,v0,v1,v2,v3,x,y,_,_=>by show lB _ _ _ _ _ [] _ _=_;simp only[lB,Ld yi,if_true,rowsOf,j9,ql,uX,iD]|none::Ls,k,acc,W,v0,v1,v2,v3,x,y,hL,hl=>by rw[Yp]at hl;have ih:=FI yi Ls (k+1) acc W v0 v1 v2 v3 (c8 (k:Nat)) (i5 []) (λws hw=>hL ws<|Yf _ hw) b5;have ht:e2 iJ (Zb 5) pj [v0,v1,v2,v3,c8 (k:Nat),i5 []] (M++ .L acc::W)= .ok (.bl false) (M++ .L acc::W):=Zf J J<|AeD J;show lB _ _ _ _ _ (.U [.int (k:Nat),.str []]::oJ (k+1) (Ls.map λl=>D.str<|bQ l)) _ _=_;simp only[lB,Ld yi,if_true,oH,Jr,Jq,qx,qy,Jt,ht,R3.bind,yR,if_false];exact ih|some ws::Ls,k,acc,W,v0,v1,v2,v3,x,y,hL,hl=>by
  rw[Yp]at hl;have ok:=hL ws Ye
  let S:=M++ .L acc::W
  have hS:B S=B M+1+B W:=by simp[S];exact fY b5 b5
  have ih:=FI yi Ls (k+1) (acc++[.U [.int (k:Nat),.ref<|B S]]) (W++[.L<|ws.map D.str]) v0 v1 v2 v3 (c8 (k:Nat)) (i5<|glue [32] ws) (λws hw=>hL ws<|Yf _ hw) r0;have ht:e2 iJ (Zb 5) pj [v0,v1,v2,v3,c8 (k:Nat),i5<|glue [32] ws] S= .ok (.bl true) S:=Zf J J<|AeC ok.ZmN;have uu:pO (glue [32] ws) [32]=ws:=E4 32 ws ok.ne λw hw=>(ok.fr w hw).1;have he:cX [v0,v1,v2,v3,c8 (k:Nat),i5<|glue [32] ws] S= .ok (.U [.int (k:Nat),.ref<|B S]) (S++[.L<|ws.map D.str]):=by refine qL (Zo J<|Zo (Lg J J yA<|(FH<|Yi ok.le aaA).trans<|by rw[uu]) J) J
  have gt:(S++[MO.L<|ws.map D.str])[B M]?=O (.L acc):=Zj (Zm _ _ _) _;have lt:B acc<SZ:=uY (show B acc<=10000 by omega) aaA;have st:(S++[MO.L<|ws.map D.str]).set (B M) (.L<|acc++[.U [.int (k:Nat),.ref<|B S]])=M++ .L (acc++[.U [.int (k:Nat),.ref<|B S]])::(W++[.L<|ws.map D.str]):=by simp[S]
  show lB _ _ _ _ _ (.U [.int (k:Nat),.str<|glue [32] ws]::oJ (k+1) (Ls.map λl=>D.str<|bQ l)) _ S=_;have Co:lA lk S=true:=Ld yi _;simp only[lB,Co,if_true,oH,Jr,Jq,qx,qy,Jt,Js,ht,R3.bind,he,gt,lt,st];rw[ih];simp only[rowsOf,j9,ql,Yw,ju,yL,jw,Yd,Y8,hS,u5]
variable{Ls:List (Option d6)}
def ZoJ(qA:Ls≠[])(sP:∀ws,O ws∈Ls->sU ws):(pO (glue [10]<|Ls.map bQ) [10]).map D.str=Ls.map λl=>D.str<|bQ l:=by
 have si:∀t∈Ls.map bQ,10∉t:=by
  intro t hm;let⟨l,hl,rfl⟩:=kZ.mp hm;cases l with
  |none=>intro z;cases z|some ws=>
   have ok:=sP ws hl;have key:∀vs:d6,(∀w∈vs,10∉w)->10∉glue [32] vs:=by
    intro vs
    induction vs with
    |nil=>intro _ z;cases z|cons v vs ih=>
     intro hv;cases vs with
     |nil=>exact hv v Ye|cons u us=>
      rw[sE];intro z;rcases gF.mp z with z|z
      .exact hv v Ye z
      .rcases gF.mp z with z|z
       .cases Yx.mp z
       .exact ih (λw hw=>hv w<|Yf _ hw) z
   exact key ws λw hw=>(ok.fr w hw).2
 rw[E4 10 _ (λe=>qA<|NK.mp e) si,pC];rfl
def ZlP{a e:E3}{M M1 M2:b3}{x:D}{q:X3}(h1:a env M= .ok x M1)(h2:e env M1= .exc q M2):Gp a e env M= .exc q M2:=by simp only[Gp,xW h1,h2]
def Znx{f:E3}{x:X3}(h:f env M= .exc x M'):aM f env M= .exc x M':=by rw[aM,h]
def Rn{F:F3}{M M1:b3}(h:g env M= .ok ds M1):aJ F (oK g) env M=F ds M1:=by show(oK g env M).bind F=_;rw[Zt2 h];rfl
def mK.up{o:R3 D}(h:mK M' z o)(l:B M<=B M')(e:∀a,a<B M->M'[a]?=M[a]?):mK M z o:=by let⟨S',q,q1,q2⟩:=h;exact⟨S',q,Yi l q1,λa ha=>(q2 a<|Y5 ha l).trans<|e a ha⟩
abbrev Ro:S3:=aM dS
abbrev eV(M:b3)(Ls:List (Option d6)):b3:=M++([MO.L<|Ls.map λl=>D.str<|bQ l,.L<|j9 (B M+2)<|rowsOf 1 Ls]++ql (rowsOf 1 Ls))
abbrev Lh:E3:=cN iN de
abbrev rdC:S3:=aG (pR Lh) cS<|fK aW
abbrev Ab(M:b3)(Ls:List (Option d6)):bO:=[i5<|glue [10]<|Ls.map bQ,My<|B M,My<|B M+1,O<|.U []]
def FK(qA:Ls≠[])(sP:∀ws,O ws∈Ls->sU ws)(hn:B Ls<900)(ht:B (glue [10]<|Ls.map bQ)<=900000):
  CJ [i5<|glue [10]<|Ls.map bQ,Yj,Yj,Yj] M=Zt rdC Ro (Ab M Ls) (eV M Ls)/\(eV M Ls)[B M+1]?=O (.L<|j9 (B M+2)<|rowsOf 1 Ls)/\(∀j,(eV M Ls)[B M+2+j]?=(ql<|rowsOf 1 Ls)[j]?)/\(eV M Ls)[B M]?=O (.L<|Ls.map λl=>D.str<|bQ l):=by
 let T:=glue [10]<|Ls.map bQ
 let M1:=M++[MO.L<|Ls.map λl=>D.str<|bQ l]
 let L:=rowsOf 1 Ls
 let M2:=M1++MO.L (j9 (B M1+1) L)::ql L
 have h1l:B M1=B M+1:=by simp[M1]
 have s1:aU fQ xq (Zb 0) (Za (eC<|.str [10]) Ze) [i5 T,Yj,Yj,Yj] M= .ok (.ref<|B M) M1:=Lg J J yA ((FH ht).trans<|by rw[ZoJ qA sP]);have h1:M1[B M]?=O (.L<|Ls.map λl=>D.str<|bQ l):=Zm _ _ _;have lk:lA [(B M,Ls.map λl=>D.str<|bQ l)] M1=true:=by simp only[lA,lQ,U5,Oi];exact j2 h1
 have lp:=FI lk Ls 1 [] [] (i5 T) (My<|B M) Yj Yj Yj Yj sP r0;have s2:zy (W8<|Zb 1) 2 (oH [4,5]) [e2 iJ (Zb 5) pj] cX [i5 T,My<|B M,Yj,Yj] M1= .ok (.ref<|B M1) M2:=by show(R3.bind (R3.bind (R3.ok (D.ref<|B M) M1) _) _)=_;simp only[R3.bind,h1];exact lp
 have gH:M2[B M1]?=O (.L<|j9 (B M1+1) L):=Zm _ _ _;have qS:∀j,M2[B M1+1+j]?=(ql L)[j]?:=λj=>by show(M1++MO.L _::ql L)[_]?=_;rw[u5,qK,l_ 1 j];rfl
 have AZ:M2[B M]?=O (.L<|Ls.map λl=>D.str<|bQ l):=Zj h1 _;have eM:eV M Ls=M2:=by simp[eV,M2,M1,L]
 rw[h1l]at gH qS s2;rw[eM];refine⟨?_,gH,qS,AZ⟩;unfold CJ;exact(Zi<|oZ<|Zq s1).trans ((Zi<|oZ<|Zq s2).trans<|Zi<|oZ<|Zq (d:=.U []) (M':=M2)<|qL J J)
def ZpK(hv:Zb 1 env S= .ok (.ref<|B M) S)(h:S[B M]?=O (.L<|Ls.map λl=>D.str<|bQ l)):e2 Zv mM px env S= .ok (.int<|(B Ls:Int)+1) S:=Zf (bR hv<|jU h) J (by rw[Ym];rfl)
def Zt7(qA:Ls≠[])(sP:∀ws,O ws∈Ls->sU ws)(hn:B Ls<900)(ht:B (glue [10]<|Ls.map bQ)<=900000)(hnt:∀q L,rowsOf 1 Ls=q::L->∃h r,q.2=h::r/\h≠BM):
  CJ [i5<|glue [10]<|Ls.map bQ,Yj,Yj,Yj] M=Ro [i5<|glue [10]<|Ls.map bQ,My<|B M,My<|B M+1,O<|.U []] (eV M Ls)/\(eV M Ls)[B M+1]?=O (.L<|j9 (B M+2)<|rowsOf 1 Ls)/\(∀j,(eV M Ls)[B M+2+j]?=(ql<|rowsOf 1 Ls)[j]?)/\
  aJ uy fq [i5<|glue [10]<|Ls.map bQ,My<|B M,My<|B M+1,O<|.U []] (eV M Ls)=uy [.ref<|B M+1,.int<|(B Ls:Int)+1] (eV M Ls):=by
 let⟨g0,gH,qS,AZ⟩:=FK (M:=M) qA sP hn ht;have cond:Lh (Ab M Ls) (eV M Ls)= .ok (.bl false) (eV M Ls):=by
  cases hL:rowsOf 1 Ls with
  |nil=>exact pN (Zf (bR J<|jU gH) J (by simp only[hL];rfl))|cons q L'=>let⟨h,r,eq,hq⟩:=hnt q L' hL;unfold Lh;rw[hL]at gH;rw[jV (M1:=eV M Ls)<|Zf (bR J<|jU gH) J<|by rw[j6,j2 (by show(0:Int)<(B (j9 _ _)+1:Nat);omega)]];have o0:(eV M Ls)[B M+2]?=O (.L<|q.2.map D.str):=(qS 0).trans (by rw[hL];rfl);refine Zf (Zf (Zf (Zf J J<|dO gH (d:=.U [.int q.1,.ref<|B M+2])<|cP _ 0) J<|zr<|cP _ 1) J<|dO o0 (d:=.str h) (by rw[eq];exact cP _ 0)) J (jC.trans<|by rw[j3 hq])
 exact⟨g0.trans<|Zi<|(mz<|xW cond).trans<|oZ J,gH,qS,Rn<|Zo J<|Zo (ZpK J AZ) J⟩
def Zr3{T:b9}{y:Int}(go:CJ [i5 T,Yj,Yj,Yj] M=Ro env (eV M Ls))(hc:aJ uy fq env (eV M Ls)=uy [.ref n,.int y] (eV M Ls))(h:mK (eV M Ls) z (uy [.ref n,.int y]<|eV M Ls))(h3:∃d,∀S,Zb 3 env S= .ok d S:=by exact⟨_,λ_=>rfl⟩):mK M z (vW [.str T] M):=by let⟨S',q,q1,q2⟩:=h;let⟨d,h3⟩:=h3;refine mK.up ⟨S',GK (env:=[i5 T,Yj,Yj,Yj]) ?_,q1,q2⟩ (by rw[eV,Yd];exact iG _ _) λa ha=>Yk ha;rw[go];exact Znx<|ZlP (h3 _)<|hc.trans q
def Dn(n:Nat):List (Int×d6)->List Rw->List (Int×Nat×Rw)
 |q::L,r::rs=>(q.1,n,r)::Dn (n+1) L rs|_,_=>[]
theorem ZpZ:∀(n:Nat) (L:List (Int×d6)) (rs:List Rw),L.map (·.2)=rs.map Rw.words->(Dn n L rs).map GP=j9 n L/\(Dn n L rs).map (·.2.2)=rs
 |_,[],[],_=>⟨rfl,rfl⟩|_,[],_::_,h=>nomatch h|_,_::_,[],h=>nomatch h|n,q::L,r::rs,h=>by let⟨h1,h2⟩:=ZpZ (n+1) L rs (lu h).2;exact⟨by show GP (q.1,n,r)::(Dn (n+1) L rs).map GP=_;rw[h1];rfl,by show r::(Dn (n+1) L rs).map (·.2.2)=_;rw[h2]⟩
def Zsp{S:b3}:∀(n:Nat) (L:List (Int×d6)) (rs:List Rw),L.map (·.2)=rs.map Rw.words->(∀j,j<B L->S[n+j]?=(ql L)[j]?)->(∀r∈rs,gJ r) ->
  ∀q∈Dn n L rs,S[q.2.1]?=O (.L<|q.2.2.words.map D.str)/\gJ q.2.2
 |_,[],[],_,_,_,q,hq=>nomatch hq|_,[],_::_,h,_,_,_,_=>nomatch h|_,_::_,[],h,_,_,_,_=>nomatch h|n,p::L,r::rs,h,hS,ok,q,hq=>by
  rcases Yo.mp hq with e|e
  .rw[e];refine⟨(hS 0 i9).trans ?_,ok r Ye⟩;show O (MO.L<|p.2.map D.str)=_;rw[show p.2=r.words from(lu h).1]
  .exact Zsp (n+1) L rs (lu h).2 (λj hj=>by have:=hS (j+1) (by simpa using hj);rwa[u5,l_ 1 j]) (λr hr=>ok r<|Yf _ hr) q e
abbrev dw:b9:=BM
def nO(tk:d6):Bool:=decide (1<=B tk)&&(decide (B tk<=6)&&(decide (B (unlike [] tk)=B tk)&&tk.all i3))
variable{tk:d6}
def ZlC{w:Nat}(hw:M[w]?=O (.L<|(dw::tk).map D.str))(hz:z.natAbs.log2<1000)(hl:B tk<=20)(hn:∀x∈tk,B x<=1000):
  if nO tk then vV [.U [.int z,.ref w]] M= .ok (.U<|tk.map D.str) M else mK M z (vV [.U [.int z,.ref w]] M):=by
 let M1:=M++[MO.L<|tk.map D.str]
 let M2:=M1++[MO.L<|tk.map λx=>D.bl<|i3 x]
 have h1:M1[B M]?=O (.L<|tk.map D.str):=Zm _ _ _;have s1:bf (e2 Zn (Zb 0) px) om bh [O<|.U [.int z,.ref w],Yj] M= .ok (.ref<|B M) M1:=by refine(oY (a:=O ((1:Nat):Int)) (b:=Yj) (Zf J J<|zr<|cP _ 1) J J hw).trans ?_;rw[vY];rfl
 have ln:∀{a:Option D},aD aV oy [a,My<|B M] M1= .ok (.int (B tk:Int)) M1:=(bR J<|jU h1).trans (by rw[Ym]);have c1:e2 eE mM px [O<|.U [.int z,.ref w],My<|B M] M1= .ok (.bl<|decide<|(B tk:Int)<1) M1:=Zf ln J<|mq ..;have c2:e2 dW mM v9 [O<|.U [.int z,.ref w],My<|B M] M1= .ok (.bl<|decide<|(6:Int)<B tk) M1:=Zf ln (g:=v9) (b:=.int 6) J<|j6 ..;have c3:e2 iJ (aD J0 oy) mM [O<|.U [.int z,.ref w],My<|B M] M1= .ok (.bl<|!decide (B (unlike [] tk)=B tk)) M1:=by refine Zf (bR J<|ZoH h1 hl) ln ?_;simp only[iJ,rH];rw[decide_eq_decide.mpr<|show(B (unlike [] tk):Int)=(B tk:Int)↔(unlike [] tk).length=B tk from⟨Bg,λe=>by rw[e]⟩]
 have l1:=ug (h:=λx=>D.bl<|i3 x) (own:=1) (i:=2) (elt:=aJ lE oP) (GD (env:=[O<|.U [.int z,.ref w],My<|B M]) (i:=1) J h1) (λm e=>by cases e;exact h1)
  (λx hx M'=>dD J<|Le (hn x hx) M') (Yi hl aaA)
 have t1:=all_map (p:=i3) (l:=tk)<|Zm M1 (MO.L<|tk.map λx=>D.bl<|i3 x) [];have rz:∀S,Za (e2 Zn (Zb 0) pz) Ze [O<|.U [.int z,.ref w],My<|B M] S= .ok [.int z] S:=λS=>Zo (Zf J J<|zr<|cP _ 0) J;have p1:∀(G:b3) a,a<B M->(M++G)[a]?=M[a]?:=λG a ha=>Yk ha;have S_:dh iA (dh (e2 dW mM v9) gz) [O<|.U [.int z,.ref w],My<|B M] M1= .ok (.bl true) M1->mK M z (vV [.U [.int z,.ref w]] M):=λh=>by refine⟨M1,GK (env:=[O<|.U [.int z,.ref w],Yj]) ?_,by simp[M1],p1 _⟩;unfold J4;exact(Zi<|oZ<|Zq s1).trans (GJ<|(cO<|xW h).trans<|FG (rz _) hz)
 unfold nO;by_cases q1:1<=tk.length
 .rw [j3 b5]at c1;by_cases q2:B tk<=6
  .rw[j3 b5]at c2;by_cases q3:B (unlike [] tk)=tk.length
   .rw[j2 q3]at c3;rw[j2 q1,j2 q2,j2 q3];have go:=(Zi (g:=Zt (aG eK (sy nJ uE ky)<|fK aW)<|fK<|aM mT)<|(mz (f:=sy nJ uE ky) (g:=fK aW)<|xW<|(iZ c1).trans<|(iZ c2).trans c3).trans<|oZ J);cases q4:tk.all i3 with
    |true=>rw[q4]at t1;refine Rt.pure (G:=[.L<|tk.map D.str,.L<|tk.map λx=>D.bl<|i3 x]) (env:=[O<|.U [.int z,.ref w],Yj]) ?_<|FD tk;unfold J4;refine(Zi<|oZ<|Zq s1).trans (go.trans ?_);refine(Zi<|(mz (M':=M2)<|xW<|dF (bR l1 t1) J).trans<|oZ J).trans (ZxU<|b7<|(bR J<|vD<|Zj h1 _).trans ?_);simp[M2,M1]|false=>rw[q4]at t1;refine⟨M2,GK (env:=[O<|.U [.int z,.ref w],Yj]) ?_,by simp[M2,M1],λa ha=>by show(M++_++_)[a]?=_;rw[ju];exact p1 _ a ha⟩;unfold J4;exact(Zi<|oZ<|Zq s1).trans (go.trans<|GJ<|(cO (M':=M2)<|xW<|dF (bR l1 t1) J).trans<|FG (rz _) hz)
   .rw[j3 q3]at c3;rw[j3 q3,yU,mj,mj];exact S_<|(iZ c1).trans<|(iZ c2).trans c3
  .rw[j2 b5]at c2;rw[j3 q2,yU,mj];exact S_<|(iZ c1).trans<|pM c2
 .rw[j2 b5]at c1;rw[j3 q1,yU];exact S_<|pM c1
theorem Li:∀{k:Nat} {Ls:List (Option d6)} {q:Int×d6},q∈rowsOf k Ls->q.1.natAbs<k+Ls.length
 |_,[],_,h=>nomatch h|k,Yj::r,q,h=>by have:=Li (k:=k+1) (Ls:=r) h;rw[Yp];omega
 |k,O w::r,q,h=>by
  rw[Yp];rcases Yo.mp h with e|h
  .rw[e];show(k:Int).natAbs<_;omega
  .have:=Li (k:=k+1) (Ls:=r) h;omega
theorem Zi2:∀(n:Nat) (L:List (Int×d6)) (q:Int×d6) (R:List (Int×d6)),j9 n (L++q::R)=j9 n L++ .U [.int q.1,.ref<|n+B L]::j9 (n+B L+1) R
 |n,[],q,R=>rfl|n,p::L,q,R=>by show _::j9 (n+1) (L++q::R)=_::(j9 (n+1) L++_);rw[Zi2 (n+1) L q R,Yp,show n+1+B L=n+(B L+1)by omega]
variable{L R:List (Int×d6)}{rs:List Rw}
def Znb{y:Int}{fs:List Pf}(hm:S[m]?=O (.L<|j9 n<|L++(z,wb)::R))(ho:∀j,j<=B L->S[n+j]?=(ql<|L++(z,wb)::R)[j]?)(hw:L.map (·.2)=rs.map Rw.words)(i6:∀r∈rs,gJ r)(hr:lF rs [⟨lG,[],[],[]⟩]=O fs)(hb:Aa wb)(hz:z.natAbs.log2<1000):mK S z (uy [.ref m,.int y] S):=by
 let⟨p1,p2⟩:=ZpZ n L rs hw;have g:∀j,j<B L->(ql<|L++(z,wb)::R)[j]?=(ql L)[j]?:=λj hj=>by show((L++(z,wb)::R).map _)[j]?=_;rw[fX,Yk<|by rwa[Ym]]
 have pa:=Zsp (S:=S) n L rs hw (λj hj=>(ho j<|Ih hj).trans<|g j hj) i6;refine Zla (L:=Dn n L rs) (p:=n+B L) (rest:=j9 (n+B L+1) R) (by rw[p1];exact hm.trans<|by rw[Zi2]) hz ((ho _<|Yu _).trans ?_) hb (by rwa[p2]) pa;show((L++(z,wb)::R).map _)[B L]?=_;rw[fX,uW (by rw[Ym];exact Yu _),Ym,Nat.sub_self];rfl
def FL{i:Int}(h:i.natAbs<1000):i.natAbs.log2<1000:=uY (Nat.log2_le_self _) h
section
variable {M:b3} {Ls:List (Option d6)} (qA:Ls≠[]) (sP:∀ws,O ws∈Ls->sU ws) (hn:B Ls<900) (ht:B (glue [10] (Ls.map bQ))<=900000)
include qA sP hn ht
theorem ZpI{fs:List Pf}(hL:rowsOf 1 Ls=L++(z,wb)::R)(hw:L.map (·.2)=rs.map Rw.words)(i6:∀r∈rs,gJ r)(hr:lF rs [⟨lG,[],[],[]⟩]=O fs)(hb:Aa wb)(hh:rs=[]->∃h r,wb=h::r/\h≠dw):mK M z (vW [.str<|glue [10]<|Ls.map bQ] M):=by
 have hz:z.natAbs.log2<1000:=FL (by have:=Li (k:=1) (Ls:=Ls) (q:=(z,wb)) (by rw[hL];exact Y2 _ Ye);have e:((z,wb):Int×d6).1=z:=rfl;rw[e]at this;omega);let⟨go,gH,qS,hc⟩:=Zt7 (M:=M) qA sP hn ht (λq L' e=>by
  rw[hL]at e;cases L with
  |nil=>
   cases rs with
   |nil=>cases e;exact hh rfl|cons r rs=>cases hw
  | cons p L=>
   cases rs with
   |nil=>cases hw|cons r rs=>
    cases e
    refine⟨r.h,_,(lu hw).1,λe=>?_⟩;have:=(i6 r Ye).sm;rw[e]at this;cases this)
 rw[hL]at gH qS;exact Zr3 go hc<|Znb gH (λj _=>qS j) hw i6 hr hb hz
theorem Ztb(hL:rowsOf 1 Ls=(z,dw::tk)::R):z.natAbs.log2<1000/\(eV M Ls)[B M+2]?=O (.L<|(dw::tk).map D.str)/\CJ [i5<|glue [10]<|Ls.map bQ,Yj,Yj,Yj] M=Zt cS Ro (Ab M Ls) (eV M Ls)/\aJ vV jv (Ab M Ls) (eV M Ls)=vV [.U [.int z,.ref<|B M+2]] (eV M Ls):=by
 have hz:z.natAbs.log2<1000:=FL (by have:=Li (k:=1) (Ls:=Ls) (q:=(z,dw::tk)) (by rw[hL];exact Ye);have e:((z,dw::tk):Int×d6).1=z:=rfl;rw[e]at this;omega);let⟨g0,gH,qS,AZ⟩:=FK (M:=M) qA sP hn ht;rw[hL]at gH;have o0:(eV M Ls)[B M+2]?=O (.L<|(dw::tk).map D.str):=(qS 0).trans (by rw[hL];rfl);have i0:e2 Zn (Zb 2) pz (Ab M Ls) (eV M Ls)= .ok (.U [.int z,.ref<|B M+2]) (eV M Ls):=Zf J J<|dO gH<|cP _ 0;have cond:Lh (Ab M Ls) (eV M Ls)= .ok (.bl true) (eV M Ls):=by unfold Lh;rw[jV (M1:=eV M Ls)<|Zf (bR J<|jU gH) J<|by rw[j6,j2 (by show(0:Int)<(B (j9 _ _)+1:Nat);omega)]];exact Zf (Zf (Zf i0 J<|zr<|cP _ 1) J<|dO o0 (d:=.str dw)<|cP _ 0) J (jC.trans<|by rw[j2 J])
 refine⟨hz,o0,g0.trans ?_,Rn<|Zo i0 J⟩;unfold Zt;rw[show rdC (Ab M Ls) (eV M Ls)=_ from cO (xW cond)]
 try rfl
theorem Zu3(hL:rowsOf 1 Ls=(z,dw::tk)::R)(hl:B tk<=20)(hx:∀x∈tk,B x<=1000)(hb:nO tk=false):mK M z (vW [.str<|glue [10]<|Ls.map bQ] M):=by let⟨hz,o0,g0,hc⟩:=Ztb (M:=M) qA sP hn ht hL;have t:=ZlC o0 hz hl hx;rw[hb]at t;let⟨S',q,q1,q2⟩:=t;refine mK.up (M':=eV M Ls) ⟨S',GK (env:=[i5<|glue [10]<|Ls.map bQ,Yj,Yj,Yj]) ?_,q1,q2⟩ (by rw[eV,Yd];exact iG _ _) λa ha=>Yk ha;rw[g0];exact GJ<|GJ<|Zsj<|hc.trans q
theorem Zta{z0:Int}{fs:List Pf}(hL:rowsOf 1 Ls=(z0,dw::tk)::(L++(z,wb)::R))(hl:B tk<=20)(hx:∀x∈tk,B x<=1000)(ht1:nO tk=true)(hw:L.map (·.2)=rs.map Rw.words)(i6:∀r∈rs,gJ r)(hr:lF rs [⟨lG,[],[],[]⟩]=O fs)(hb:Aa wb):mK M z (vW [.str<|glue [10]<|Ls.map bQ] M):=by
 have hz:z.natAbs.log2<1000:=FL (by have:=Li (k:=1) (Ls:=Ls) (q:=(z,wb)) (by rw[hL];exact Yf _<|Y2 _ Ye);have e:((z,wb):Int×d6).1=z:=rfl;rw[e]at this;omega);let⟨hz0,o0,g0,hc⟩:=Ztb (M:=M) qA sP hn ht hL;let⟨_,gH,qS,AZ⟩:=FK (M:=M) qA sP hn ht;have t:=ZlC o0 hz0 hl hx;rw[ht1]at t;rw[hL]at gH qS
 let M2:=eV M Ls
 let M3:=M2++[MO.L<|j9 (B M+3)<|L++(z,wb)::R]
 have sl:bf (Zb 2) om bh ((Ab M Ls).set 3<|O<|.U<|tk.map D.str) M2= .ok (.ref<|B M2) M3:=by refine(oY (a:=O ((1:Nat):Int)) (b:=Yj) J J J gH).trans ?_;rw[vY];rfl
 have d:=Znb (S:=M3) (m:=B M2) (n:=B M+3) (y:=(B Ls:Int)+1) (Zm _ _ _) (λj hj=>by
  have j1:j+1<B (ql<|(z0,dw::tk)::(L++(z,wb)::R)):=by simp;omega
  have e:=qS<|j+1;rw[Y0 j1]at e;have e3:M3[B M+2+(j+1)]?=_:=Zj e _;rw[show B M+3+j=B M+2+(j+1)by omega,e3,<-Y0 j1];rfl) hw i6 hr hb hz
 let⟨S',q,q1,q2⟩:=d;have b2:mK M3 z (vW [.str<|glue [10]<|Ls.map bQ] M):=by refine⟨S',GK (env:=[i5<|glue [10]<|Ls.map bQ,Yj,Yj,Yj]) ?_,q1,q2⟩;rw[g0];refine(Zi<|(Zi<|Zq<|hc.trans t).trans<|oZ<|Zq sl).trans ?_;exact Znx<|ZlP J<|(Rn<|Zo J<|Zo (ZpK J<|Zj AZ _) J).trans q
 refine b2.up ?_ λa ha=>?_
 .show B M<=B (M++_++_);rw[ju,Yd];exact iG _ _
 .show(M++_++_)[a]?=_;rw[ju];exact Yk ha
end
def Zut(cs:List Int)(c d:Nat)(ao:Nat)(M:b3)(hd:M[d]?=O (.L [.ref c,.int (ao:Int)]))(hc:M[c]?=O (.L<|cs.map D.int))(ha:ao<1000000)(qA:c≠d):
  ∃v:Int,gn [.ref d] M= .ok (.int v) (M.set d<|.L [.ref c,.int ((ao+1:Nat):Int)]):=by
 have xA:=(Yg.mp hd).1;have uA:(M.set d<|.L [.ref c,.int<|(ao:Int)+1])[c]?=O (.L<|cs.map D.int):=by rwa[Ys<|cu qA]
 have fin:∀v:Int,Gu [My d,Yj,Yj] M= .rt (.int v) (M.set d<|.L [.ref c,.int<|(ao:Int)+1])->∃v:Int,gn [.ref d] M= .ok (.int v) (M.set d<|.L [.ref c,.int ((ao+1:Nat):Int)]):=λv h=>by refine⟨v,(jT h).trans ?_⟩;unfold gj;rw[tL i9];split <;>first|exact rfl|simp
 have m1:wY (ao:Int) (ao:Int)=true:=AeT b5;have m2:wY ((ao:Int)*ao) 3=true:=mul_r b5;by_cases h1:ao<cs.length
 .exact fin cs[ao] (by simp[Gu,Zt,aC,aM,aG,aW,bC,vA,hd,uA,h1])
 .by_cases h2:B cs=0
  .have n0:¬((ao:Int)<0):=(λz=>by omega);exact fin ((ao:Int)*ao*3+ao) (by simp[Gu,Zt,aC,aM,aG,aW,bC,vA,hd,uA,h2,m1,m2,n0])
  .let⟨a,ha',ZzE⟩:=fC (ao:Int) (B cs)<|(Nat.lt_of_le_of_ne (g_ _)<|cu h2);have Zpd:0<B cs:=by omega
   exact fin (cs[a] / 2+(ao:Int)*ao) (by simp[Gu,Zt,aC,aM,aG,aW,bC,vA,hd,uA,h1,h2,m1,Zpd,ha',ZzE])
structure cW(cs:List Int)(c d:Nat)(ao:Nat)(M:b3):Prop where
 hd:M[d]?=O (.L [.ref c,.int (ao:Int)])
 hc:M[c]?=O (.L<|cs.map D.int)
 ne:c≠d
variable{ao d:Nat}{cs:List Int}
def cW.next(K:cW cs c d ao M)(ha:ao<1000000):∃(v:Int) (M':b3),gn [.ref d] M= .ok (.int v) M'/\cW cs c d (ao+1) M'/\M'.length=B M/\∀j,j≠d->M'[j]?=M[j]?:=by let⟨v,h⟩:=Zut cs c d ao M K.hd K.hc ha K.ne;have xA:=(Yg.mp K.hd).1;exact⟨v,_,h,⟨Y4 xA,by rw[Ys<|cu K.ne];exact K.hc,K.ne⟩,i9,λj hj=>Ys<|cu hj⟩
structure Kp(d:Nat)(M M':b3):Prop where
 len:B M<=M'.length
 old:∀j,j<B M->j≠d->M'[j]?=M[j]?
def Kp.trans{M M1 M2:b3}(a:Kp d M M1)(b:Kp d M1 M2):Kp d M M2:=⟨Yi a.len b.len,λj h1 h2=>(b.old j (Y5 h1 a.len) h2).trans<|a.old j h1 h2⟩
def Kp.app(d:Nat)(M G:b3):Kp d M (M++G):=⟨i9,λj h _=>Yk h⟩
def Kp.get(k:Kp d M M'){o:MO}(h:M[j]?=O o)(hj:j≠d):M'[j]?=O o:=(k.old j (Yg.mp h).1 hj).trans h
def Kp.put(k:Kp d M M')(hj:B M<=j)(o:MO):Kp d M (M'.set j o):=⟨by rw[tQ];exact k.len,λi h1 h2=>by rw[Ys<|by exactλz=>by omega];exact k.old i h1 h2⟩
def cW.app(K:cW cs c d ao M)(G:b3):cW cs c d ao (M++G):=⟨Zj K.hd G,Zj K.hc G,K.ne⟩
def cW.put(K:cW cs c d ao M)(h1:j≠d)(h2:j≠c)(o:MO):cW cs c d ao (M.set j o):=⟨by rw[Ys h1];exact K.hd,by rw[Ys h2];exact K.hc,K.ne⟩
def cW.lt(K:cW cs c d ao M):c<B M/\d<B M:=⟨(Yg.mp K.hc).1,(Yg.mp K.hd).1⟩
def cW.draw(K:cW cs c d ao M)(ha:ao<1000000):∃(v:Int) (M':b3),gn [.ref d] M= .ok (.int v) M'/\cW cs c d (ao+1) M'/\Kp d M M'/\M'.length=B M:=by let⟨v,M',h,ZnC,l,o⟩:=K.next ha;exact⟨v,M',h,ZnC,⟨lR l.symm,λj _ hj=>o j hj⟩,l⟩
abbrev Rp:S3:=(Zt (aC 6 nV) af)
def Zri(c:Int):∃v:Int,v.natAbs<10^60/\∀M,zT [.int c] M= .ok (.int v) M:=by
 let⟨a,ea,ha⟩:=fC c 4 aaA;have ea:c % 4=(a:Int):=ea
 let N:Int:=c / 4 % (10^59)
 let T:Int:=c / 4 % 12
 have hN0:0<=N:=tX _ aaA;have hN1:N<10^59:=wN _ aaA;have hT0:0<=T:=tX _ aaA;have hT1:T<12:=wN _ aaA;have rq:∀v:Int,([D.int T,.int<|-1-T,.int N,.int<|-1-N]:c9)[a]?=c8 v->∀M,zT [.int c] M= .ok (.int v) M:=λv hv M=>by
  refine Rt.pure (G:=[.L [.int T,.int<|-1-T,.int N,.int<|-1-N]]) (env:=[c8 c,Yj]) ?_ J;unfold Z3;have hp:e2 Qa pw (eC<|.int 59) [c8 c,Yj] M= .ok (.int<|10^59) M:=Zf J J (by rw[SO,c_ ⟨aaA,aaA,aaA⟩];rfl);refine(Zi<|Zq (d:=.int N)<|Zf vE hp<|cg aaA).trans ?_;have l:Zz bE [c8 c,c8 N] M= .ok (.ref<|B M) (M++[.L [.int T,.int<|-1-T,.int N,.int<|-1-N]]):=by have t:e2 Zx mh pv [c8 c,c8 N] M= .ok (.int T) M:=Zf vE J<|cg aaA;exact bM (Zo t<|Zo (Zf Au t J)<|Zo J<|Zo (Zf Au J J) J) J
  refine b7<|Zf l AR<|dO (Zm _ _ _) ?_;rwa[ea,cP]
 match a,ha,rq with
 |0,_,rq=>exact⟨T,b5,rq _ J⟩|1,_,rq=>exact⟨-1-T,b5,rq _ J⟩|2,_,rq=>exact⟨N,b5,rq _ J⟩|3,_,rq=>exact⟨-1-N,b5,rq _ J⟩
inductive Fits:List Sm->b9->Prop
 |nil:Fits [] []
 |cons {t:Sm} {e:Nat} {ts:List Sm} {es:b9} (h:t.fit) (d:t.dp<=e) (r:Fits ts es):Fits (t::ts) (e::es)
def Rq(deep:Nat)(W:c9)(es:b9):Prop:=∀ts:List Sm,Fits ts es->∃t:Sm,t.fit/\t.dp<=deep/\t.flat=W++(ts.map Sm.flat).flatten
inductive Dp(e:Nat)(es:b9):D->b9->Prop
 |num (i:Int) (h:i.natAbs<10^60):Dp e es (.int i) es
 |eQ (x:b9) (h:b_ x):Dp e es (.str x) es
 |j8:Dp e es (.str jk) (e::es)
 |two (o:Nat) (h:1<e):Dp e es (.str (zZ o)) (e::(e-1)::es)
def ZvE(deep:Nat):Rq deep [] [deep]:=λts h=>by
 cases h with
 |cons h d r=>cases r;exact⟨_,h,d,i9⟩
variable{e:Nat}
def Zoi{deep:Nat}{W:c9}{es sN:b9}{w:D}(h:Rq deep W (e::es))(he:1<=e)(t:Dp e es w sN):Rq deep (W++[w]) sN:=by
 cases t with
 |num i hi=>intro ts f;let⟨t,h1,h2,h3⟩:=h (.num i::ts)<|.cons hi he f;exact⟨t,h1,h2,by rw[h3];simp[Sm.flat]⟩|eQ x hx=>intro ts f;let⟨t,h1,h2,h3⟩:=h (.eQ x::ts)<|.cons hx he f;exact⟨t,h1,h2,by rw[h3];simp[Sm.flat]⟩|j8=>
  intro ts f;cases f with
  | @cons a _ ts _ ha hd r=>let⟨t,h1,h2,h3⟩:=h (.j8 a::ts)<|.cons ha hd r;exact⟨t,h1,h2,by rw[h3];simp[Sm.flat]⟩
 | two o ho=>
  intro ts f;cases f with
  | @cons a _ ts _ ha hd r=>
   cases r with
   | @cons b _ ts _ hb hbd r=>let⟨t,h1,h2,h3⟩:=h (.two o a b::ts)<|.cons ⟨ha,hb⟩ (Nat.max_le.mpr ⟨hd,b5⟩) r;exact⟨t,h1,h2,by rw[h3];simp[Sm.flat]⟩
def ZrA{x y:c9}(h1:M[n]?=O (.L x))(h2:M[m]?=O (.L y))(qA:n≠m)(hz:B x+B y<=900000):rN (.ref n) [.ref m] M= .ok .Z (M.set n<|.L<|x++y):=by simp only[rN,h1,h2];exact c_ ⟨qA,Yi hz aaA⟩
structure LS(cs:List Int)(c d:Nat)(M S:b3)(p q:Nat)(W:c9)(es:b9)(ao:Nat):Prop where
 hp:S[p]?=O (.L W)
 hq:S[q]?=O (.L<|es.reverse.map λ(e:Nat)=>D.int (e:Int))
 dk:cW cs c d ao S
 kp:Kp d M S
 lp:B M<=p
 lq:B M<=q
 ne:p≠q
 ld:c<B M/\d<M.length
variable{nr:Nat}{names:d6}
section
variable {cs:List Int} {c d:Nat} {M S:b3} {p q:Nat} {W:c9} {es:b9} {ao:Nat}
def LS.app(L:LS cs c d M S p q W es ao)(G:b3):LS cs c d M (S++G) p q W es ao:=⟨Zj L.hp G,Zj L.hq G,L.dk.app G,L.kp.trans<|Kp.app d S G,L.lp,L.lq,L.ne,L.ld⟩
def LS.Mr(L:LS cs c d M S p q W es ao)(W':c9):LS cs c d M (S.set p<|.L W') p q W' es ao:=⟨Y4 (Yg.mp L.hp).1,by rw[Ys L.ne];exact L.hq,L.dk.put (by have:=L.lp;have:=L.ld;omega) (by have:=L.lp;have:=L.ld;omega) _,L.kp.put L.lp _,L.lp,L.lq,L.ne,L.ld⟩
def LS.Tc(L:LS cs c d M S p q W es ao)(sN:b9):LS cs c d M (S.set q<|.L<|sN.reverse.map λ(e:Nat)=>D.int (e:Int)) p q W sN ao:=⟨by rw[Ys<|cu L.ne];exact L.hp,Y4 (Yg.mp L.hq).1,L.dk.put (by have:=L.lq;have:=L.ld;omega) (by have:=L.lq;have:=L.ld;omega) _,L.kp.put L.lq _,L.lp,L.lq,L.ne,L.ld⟩
def LS.draw(L:LS cs c d M S p q W es ao)(ha:ao<1000000):∃v S',gn [.ref d] S= .ok (.int v) S'/\LS cs c d M S' p q W es (ao+1):=by let⟨v,S',h,K,kp,l⟩:=L.dk.draw ha;have hd:=L.ld;exact⟨v,S',h,kp.get L.hp (by have:=L.lp;exactλz=>by omega),kp.get L.hq (by have:=L.lq;exactλz=>by omega),K,L.kp.trans kp,L.lp,L.lq,L.ne,L.ld⟩
def Zu8{most:Nat}(L:LS cs c d M S p q W (e::es) ao)(ha:ao<1000000)(r9:M[nr]?=O (.L<|names.map D.str))(nd:nr≠d)(hn:B names=12)(qV:∀x∈names,b_ x)(hm:most<=60)(hl:B W+B es+1<=most){deep:Option D}(x6 x7 x8 x9:Option D):
  ∃w sN S' y6 y7 y8 y9,Rp [My d,My nr,deep,c8 (most:Int),My p,My q,x6,x7,x8,x9] S= .nx [My d,My nr,deep,c8 (most:Int),My p,My q,y6,y7,y8,y9] S'/\LS cs c d M S' p q (W++[w]) sN (ao+1)/\Dp e es w sN/\W.length+1+B sN<=most:=by
 have Rr:B W<SZ:=uY (show B W<=60 by omega) aaA;have hq0:S[q]?=O (.L<|es.reverse.map (λ(e:Nat)=>D.int (e:Int))++[D.int (e:Int)]):=by rw[L.hq,yK,fX];rfl
 have L1:LS cs c d M (S.set q<|.L<|es.reverse.map λ(e:Nat)=>D.int (e:Int)) p q W es ao:=L.Tc es;let⟨v,S2,hv,L2⟩:=L1.draw ha;let⟨way,ew,hw⟩:=fC v 9 aaA;have ew:v % 9=(way:Int):=ew
 let room:Int:=(most:Int)-(B W:Int)-(B es:Int)-1
 have s8:∀{a b:Option D},e2 iu fw px [My d,My nr,deep,c8 (most:Int),My p,My q,c8 (e:Int),c8 v,a,b] S2= .ok (.int room) S2:=by intro a b;refine Zf (Zf (Zf J (bR J<|jU L2.hp) J) (bR J<|jU L2.hq) J) J ?_;rw[Ym,H_,Jh]
 let E:bO:=[My d,My nr,deep,c8 (most:Int),My p,My q,c8 (e:Int),c8 v,c8 room,c8 (way:Int)]
 have start:∀{o:O3},ai E S2=o->Rp [My d,My nr,deep,c8 (most:Int),My p,My q,x6,x7,x8,x9] S=o:=λh=>by refine(Zi<|Zq<|Rj J hq0).trans ((Zi<|Zq<|dD J hv).trans<|(Zi<|Zq s8).trans<|(Zi<|Zq (d:=.int (way:Int))<|Zf J J<|(cg aaA).trans<|by rw[ew]).trans h)
 by_cases h1:way<3/\1<e/\(1:Int)<room
 .have hc:cN mi (cN ml mm) E S2= .ok (.bl true) S2:=by
   rw[jV (M1:=S2) (Zf J J<|by rw[mq,j2 b5]),jV (M1:=S2)<|Zf J J<|by rw[j6,j2 b5]];exact Zf J J (by rw[j6,j2 h1.2.2])
  let S3:=S2++[MO.L [.str tT,.str va,.str vb]]
  have L3:LS cs c d M S3 p q W es (ao+1):=L2.app _;have hi:[D.str tT,.str va,.str vb][way]?=i5 (zZ way):=by
   match way,h1.1 with
   |0,_=>rfl|1,_=>rfl|2,_=>rfl
  have a1:=p_ (env:=E) (M:=S2) (M':=S2) (o:=Zb 4) (t:=e2 Zn dq<|Zb 9) (M2:=S3) J L2.hp (Zf (bM (ds:=[.str tT,.str va,.str vb]) J J) J<|dO (Zm _ _ _)<|by rwa[cP]) L3.hp Rr;have L4:=L3.Mr<|W++[.str<|zZ way]
  let S4:=S3.set p<|.L<|W++[.str<|zZ way]
  have L5:=L4.app [MO.L [.int ((e-1:Nat):Int),.int (e:Int)]]
  let S5:=S4++[MO.L [.int ((e-1:Nat):Int),.int (e:Int)]]
  have hql:q<B S4:=(Yg.mp L4.hq).1;have L6:=L5.Tc<|e::(e-1)::es;have a2:bC eP E S4= .nx E (S5.set q<|.L<|(e::(e-1)::es).reverse.map λ(e:Nat)=>D.int (e:Int)):=by refine uf (d:=.Z) (Lg J (by rw[Fw,L4.hq]) (Zo (bM (ds:=[.int ((e-1:Nat):Int),.int (e:Int)]) (Zo (Zf J J (by rw[Jh];congr 2;exact tW b5 b5)) J) J) J)<|(ZrA L5.hq (Zm _ _ _) (d8 hql) r0).trans ?_);simp;rfl
  exact⟨_,_,_,_,_,_,_,start<|(cO hc).trans<|(Zi a1).trans a2,L6,.two way h1.2.1,by simp;omega⟩
 have FO:cN mi (cN ml mm) E S2= .ok (.bl false) S2:=by
  by_cases q1:way<3
  .rw[jV (M1:=S2)<|Zf J J<|by rw[mq,j2 b5]];by_cases q2:1<e
   .rw[jV (M1:=S2)<|Zf J J<|by rw[j6,j2 b5]];exact Zf J J (by rw[j6,j3 λz=>h1 ⟨q1,q2,z⟩])
   .exact pN (Zf J J<|by rw[j6,j3<|by exactλz=>by omega])
  .exact pN (Zf J J<|by rw[mq,j3<|by exactλz=>by omega])
 by_cases h2:way=3/\(0:Int)<room
 .have hc:cN mn mr E S2= .ok (.bl true) S2:=by
   rw[jV (M1:=S2)<|Zf J J<|nq<|by exact tW b5 b5];exact Zf J J (by rw[j6,j2 h2.2])
  have a1:=p_ (env:=E) (M:=S2) (M':=S2) (o:=Zb 4) (t:=eC<|.str jk) (M2:=S2) J L2.hp J L2.hp Rr;have L4:=L2.Mr<|W++[.str jk];have hz:B (es.reverse.map λ(e:Nat)=>D.int (e:Int))<SZ:=by rw[Ym,H_];exact uY (show B es<=60 by omega) aaA
  have a2:=p_ (env:=E) (M:=S2.set p<|.L<|W++[.str jk]) (M':=S2.set p<|.L<|W++[.str jk]) (o:=Zb 5) (t:=Zb 6) (M2:=S2.set p<|.L<|W++[.str jk]) J L4.hq J L4.hq hz;have L6:=L4.Tc<|e::es;have Zm5:(es.reverse.map λ(e:Nat)=>D.int (e:Int))++[D.int (e:Int)]=(e::es).reverse.map λ(e:Nat)=>D.int (e:Int):=by simp
  rw[Zm5]at a2;exact⟨_,_,_,_,_,_,_,start<|(mz FO).trans<|(cO hc).trans<|(Zi a1).trans a2,L6,.j8,by simp;omega⟩
 have uA:cN mn mr E S2= .ok (.bl false) S2:=by
  by_cases q1:way=3
  .rw[jV (M1:=S2)<|Zf J J<|nq<|tW b5 b5];exact Zf J J (by rw[j6,j3 λz=>h2 ⟨q1,z⟩])
  .exact pN (Zf J J<|pK λz=>by omega)
 by_cases h3:way<7
 .let⟨a,ea,ha'⟩:=fC (v / 9) 12 aaA;have ea:v / 9 % 12=(a:Int):=ea;have FR:names[a]?=O (names[a]'(by omega)):=Y0 _;have FU:S2[nr]?=O (.L<|names.map D.str):=L2.kp.get r9 nd;have a1:=p_ (env:=E) (M:=S2) (M':=S2) (o:=Zb 4) (t:=e2 Zn (Zb 1) ia) (M2:=S2) J L2.hp (Zf J r6<|dO FU (d:=.str<|names[a]'(by omega)) (by rw[ea,cP,jg,FR];rfl)) L2.hp Rr;refine⟨_,_,_,_,_,_,_,start ((mz FO).trans<|(mz uA).trans<|(cO (M':=S2)<|Zf J J<|by rw[mq,j2 b5]).trans a1),L2.Mr _,.eQ _<|qV _<|tO _,b5⟩
 .let⟨z,hz,hzv⟩:=Zri<|v / 9;have a1:=p_ (env:=E) (M:=S2) (M':=S2) (o:=Zb 4) (t:=aJ zT kA) (M2:=S2) J L2.hp (dD vE<|hzv S2) L2.hp Rr;exact⟨_,_,_,_,_,_,_,start ((mz FO).trans<|(mz uA).trans<|(mz (M':=S2)<|Zf J J<|by rw[mq,j3<|by exactλz=>by omega]).trans a1),L2.Mr _,.num z hz,b5⟩
end
def FV{q:Nat}{X:List Int}(hv:Zb i env S= .ok (.ref q) S)(hq:S[q]?=O (.L<|X.map D.int)):e2 iJ (Zb i) (Zz Ze) env S= .ok (.bl<|!X.isEmpty) (S++[.L []]):=by
 refine Zf hv tw ?_;have hp:(X.map D.int).all (fO qE)=true:=jh.mpr λd hd=>by let⟨x,_,rfl⟩:=kZ.mp hd;rfl
 simp only[iJ,Bt,Zj hq,Zm,hp];cases X with
 |nil=>rfl|cons a X=>rfl
def Zrh(es:b9):es.reverse.map (λ(e:Nat)=>D.int (e:Int))=(es.reverse.map λ(e:Nat)=>(e:Int)).map D.int:=by rw[pC];rfl
section
variable {cs:List Int} {c d:Nat} {M S:b3} {p q:Nat} {W:c9} {es:b9} {ao:Nat}
def Ztl{es sN:b9}{w:D}(t:Dp e es w sN)(he:1<=e)(h:∀x∈es,1<=x):∀x∈sN,1<=x:=by
 cases t with
 |num _ _=>exact h|eQ _ _=>exact h|j8=>
  intro x hx;rcases Yo.mp hx with z|z
  .omega
  .exact h x z
 | two o ho=>
  intro x hx;rcases Yo.mp hx with z|z
  .omega
  .rcases Yo.mp z with z|z
   .omega
   .exact h x z
def Zsy{most deep:Nat}(r9:M[nr]?=O (.L<|names.map D.str))(nd:nr≠d)(hn:B names=12)(qV:∀x∈names,b_ x)(hm:most<=60){vd:Option D}:
  ∀(m fuel:Nat) (S:b3) (W:c9) (es:b9) (ao:Nat) (x6 x7 x8 x9:Option D),LS cs c d M S p q W es ao->B W+m=most->m<fuel->B W+B es<=most->ao+m<1000000->(∀e∈es,1<=e)->Rq deep W es ->
  ∃(t:Sm) (S':b3) (at':Nat) (y6 y7 y8 y9:Option D),t.fit/\t.dp<=deep/\t.flat.length<=most/\at'<=ao+m/\vC (e2 iJ (Zb 5)<|Zz Ze) Rp fuel [My d,My nr,vd,c8 (most:Int),My p,My q,x6,x7,x8,x9] S= .nx [My d,My nr,vd,c8 (most:Int),My p,My q,y6,y7,y8,y9] S'/\LS cs c d M S' p q t.flat [] at':=by
 intro m
 induction m with
 |zero=>
  intro fuel S W es ao x6 x7 x8 x9 L h1 h2 h3 h4 h5 hd;have:es=[]:=List.length_eq_zero_iff.mp<|fY b5<|g_ _;subst this;let⟨t,f1,f2,f3⟩:=hd [] .nil;have f3:t.flat=W:=by simpa using f3
  obtain⟨f,rfl⟩:∃f,fuel=f+1:=⟨fuel-1,fY (O_ _ _)<|lR<|N8 b5⟩;refine⟨t,_,ao,x6,x7,x8,x9,f1,f2,by rw[f3];omega,iG _ _,?_,by rw[f3];exact L.app [.L []]⟩;rw[Fx,FV (X:=[]) J L.hq];rfl
 | succ m ih=>
  intro fuel S W es ao x6 x7 x8 x9 L h1 h2 h3 h4 h5 hd;obtain⟨f,rfl⟩:∃f,fuel=f+1:=⟨fuel-1,fY (O_ _ _)<|lR<|N8 b5⟩;cases es with
  |nil=>
   let⟨t,f1,f2,f3⟩:=hd [] .nil;have f3:t.flat=W:=by simpa using f3
   refine⟨t,_,ao,x6,x7,x8,x9,f1,f2,by rw[f3];omega,iG _ _,?_,by rw[f3];exact L.app [.L []]⟩;rw[Fx,FV (X:=[]) J L.hq];rfl
  |cons e es=>
   rw[Yp]at h3;have he:=h5 e Ye;let⟨w,sN,S1,y6,y7,y8,y9,hb,L1,tt,hl⟩:=Zu8 (most:=most) (L.app [.L []]) b5 r9 nd hn qV hm b5 (deep:=vd) x6 x7 x8 x9;let⟨t,S',at',ZzT,z7,z8,z9,f1,f2,f3,f4,f5,f6⟩:=ih f S1 (W++[w]) sN (ao+1) y6 y7 y8 y9 L1 (by simp;exact fY b5 b5) b5 (by simp;exact hl) b5 (Ztl tt he λx hx=>h5 x<|Yf _ hx)<|Zoi hd he tt;refine⟨t,S',at',ZzT,z7,z8,z9,f1,f2,f3,b5,?_,f6⟩;have hq:S[q]?=O (.L<|((e::es).reverse.map λ(e:Nat)=>(e:Int)).map D.int):=by rw[<-Zrh];exact L.hq
   have hc:=FV (env:=[My d,My nr,vd,c8 (most:Int),My p,My q,x6,x7,x8,x9]) (i:=5) J hq;have hx:(!((e::es).reverse.map λ(e:Nat)=>(e:Int)).isEmpty)=true:=by simp
   rw[hx]at hc;rw[Fx,hc];show(match Rp _ _ with| .nx e M'=>_| .ct e M'=>_| .bk e M'=>_|o=>o)=_;rwa[hb]
structure mL(cs:List Int)(c d:Nat)(M S:b3)(ao at' n:Nat):Prop where
 dk:cW cs c d at' S
 kp:Kp d M S
 le:at'<=ao+n
def Lj{at':Nat}{x:D}(ld:c<B M/\d<B M)(hd:cW cs c d at' M')(kp:Kp d M M')(le:at'<=ao+n):∃S,gj M x M'= .ok x S/\mL cs c d M S ao at' n:=by let⟨S,e,l,o⟩:=m9 (M:=M) (M':=M') (d:=x) kp.len;exact⟨S,e,⟨by rw[o d ld.2];exact hd.hd,by rw[o c ld.1];exact hd.hc,hd.ne⟩,⟨l,λj h1 h2=>(o j h1).trans<|kp.old j h1 h2⟩,le⟩
def Ru{most deep:Nat}(dk:cW cs c d ao M)(r9:M[nr]?=O (.L<|names.map D.str))(nd:nr≠d)(hn:B names=12)(qV:∀x∈names,b_ x)(hm:most<=60)(h1:1<=most)(y4:1<=deep)(ha:ao+60<1000000):
  ∃(t:Sm) (S:b3) (at':Nat),t.fit/\t.dp<=deep/\t.flat.length<=most/\uz [.ref d,.ref nr,.int (deep:Int),.int (most:Int)] M= .ok (.U t.flat) S/\mL cs c d M S ao at' 60:=by
 have ld:=dk.lt
 let M1:=M++[MO.L []]++[MO.L [.int (deep:Int)]]
 have L0:LS cs c d M M1 (B M) (B M+1) [] [deep] ao:=⟨Zj (Zm _ _ _) _,by have:=Zm (M++[MO.L []]) (MO.L [.int (deep:Int)]) [];rwa[Yd]at this,(dk.app _).app _,(Kp.app d M _).trans<|Kp.app d _ _,Yu _,tU _,(λz=>by omega),ld⟩;let⟨t,S',at',y6,y7,y8,y9,f1,f2,f3,f4,f5,f6⟩:=Zsy (deep:=deep) r9 nd hn qV hm (vd:=c8 (deep:Int)) most 1000000 M1 [] [deep] ao Yj Yj Yj Yj L0 i9 b5 (by simp;exact h1) b5 (λe he=>by rwa[Yx.mp he])<|ZvE deep;let⟨S,e,D⟩:=Lj (ao:=ao) (x:=.U t.flat) (n:=60) ld f6.dk f6.kp b5;refine⟨t,S,at',f1,f2,f3,(jT (M':=S') (env:=[My d,My nr,c8 (deep:Int),c8 (most:Int),Yj,Yj,Yj,Yj,Yj,Yj]) ?_).trans e,D⟩;unfold Z4;refine(Zi<|Zq (d:=.ref<|B M) (M':=M++[.L []]) tw).trans ?_;refine(Zi<|Zq (d:=.ref<|B M+1) (M':=M1)<|(bM (ds:=[.int (deep:Int)]) J J).trans (by rw[Yd];rfl)).trans ?_;refine(Zi f5).trans ?_;exact b7<|bR J<|vD f6.hp
end
abbrev lwB:S3:=(aG (e1 (w5 .str)<|Zb 2) km eI)
inductive Part:D->Prop
 |eQ (x:b9):Part (.str x)
 |sum (ws:c9) (h:∀w∈ws,qd w) (l:B ws<=60):Part (.U ws)
def sV:D->d6
 | .str x=>[x]|.U ws=>ws.map bL|_=>[]
def ZzP{w:D}(h:qd w)(M:b3):BR [w] M= .ok (.str<|bL w) M:=by
 cases h with
 |int i hi=>rw[TL,c_<|ZwH hi];rfl|eQ x _=>rfl|op x _=>rfl
def ZuP{P:D}(h:Part P):B (sV P)<=60:=by
 cases h with
 |eQ x=>exact(show 1<=60 by decide)|sum ws _ l=>simpa[sV]using l
def Zpc{M:b3}{W0:Option D}{it:ir}(hi:it.lock=Yj):∀(Ps:c9) (acc:d6) (G:b3) (x:Option D),(∀P∈Ps,Part P)->B acc+60*B Ps<=1000 ->
  ∃G' y,iz it (cV 2) lwB Ps [W0,My<|B M,x] (M++ .L (acc.map D.str)::G)= .nx [W0,My<|B M,y] (M++ .L ((acc++Ps.flatMap sV).map D.str)::G')
 |[],acc,G,x,_,_=>⟨G,x,by rw[w6,c_ (by unfold locked;rw[hi])];simp⟩|P ::Ps,acc,G,x,hP,hl=>by
  rw[Yp]at hl;have hp:=hP P Ye;have qv:=ZuP hp
  let S:=M++ .L (acc.map D.str)::G
  have hS:S[B M]?=O (.L<|acc.map D.str):=Zm _ _ _;have step:∃G1,lwB [W0,My<|B M,O P] S= .nx [W0,My<|B M,O P] (M++ .L ((acc++sV P).map D.str)::G1):=by
   cases hp with
   |eQ y=>refine⟨G,(cO (M':=S)<|by rfl).trans<|(E7 J hS (d:=.str y) J hS (by rw[Ym];exact uY (show B acc<=1000 by omega) aaA)).trans ?_⟩;simp[S,sV]|sum ws hw l=>
    have lc:=ug (h:=λw=>D.str<|bL w) (enc:=λw=>w) (own:=1) (i:=3) (it:=eG<|Zb 2) (elt:=aD BR oz) (env:=[W0,My<|B M,O<|.U ws]) (M:=S) (M1:=S) (lock:=Yj) (as:=ws) (by rw[U6];rfl) nofun
     (λw hw' M'=>bR J<|ZzP (hw w hw') M') b5
    have j1:B M<B S:=(Yg.mp hS).1;refine⟨G++[.L<|ws.map λw=>D.str<|bL w],(mz (M':=S)<|by rfl).trans<|(uf (d:=.Z)<|Lg J (by rw[Fw,hS]) (Zo lc J)<|ZrA (Zj hS _) (Zm _ _ _) (d8 j1) r0).trans ?_⟩;simp[S,sV]
  let⟨G1,h1⟩:=step;let⟨G',y,h2⟩:=Zpc hi Ps (acc++sV P) G1 (O P) (λQ hQ=>hP Q<|Yf _ hQ) (by rw[Yd];omega);refine⟨G',y,?_⟩;rw[rK,c_ (by unfold locked;rw[hi])];simp only[cV,qx,qy];rw[show(M++MO.L (acc.map D.str)::G)=S from rfl,h1];simp only;rw[h2,UL,ju]
def Rw.parts(H:gJ r):∀P∈r.tl,Part P:=λP hP=>by
 rcases gF.mp hP with h|h
 .let⟨x,_,rfl⟩:=kZ.mp h;exact .eQ x
 .let⟨t,ht,rfl⟩:=kZ.mp h;exact .sum _ (Di t<|H.ok.fit t ht)<|Yi (HR ht) H.ok.len
def Rw.AdR(r:Rw):r.h::r.tl.flatMap sV=r.words:=by
 unfold Rw.words Rw.tl;rw[List.flatMap_append];have e1:∀xs:d6,(xs.map D.str).flatMap sV=xs:=by
  intro xs
  induction xs with
  |nil=>rfl|cons x xs ih=>rw[Yw,UL,ih];rfl
 have e2:∀ts:List Sm,(ts.map λt=>D.U t.flat).flatMap sV=(bN ts).map bL:=by
  intro ts
  induction ts with
  |nil=>rfl|cons t ts ih=>rw[Yw,UL,ih,bN,bN,Yw,q_,fX];rfl
 rw[e1,e2]
def ZuK{w:D}(h:qd w):B (bL w)<=61:=by
 cases h with
 |int i hi=>exact p0 hi|eQ x hx=>exact Yi hx.le (by decide)|op x hx=>exact Yi (Fu hx).2.1 aaA
def FX(H:gJ r):cQ r.h fj≠Yj:=by rw[H.sm];exact nofun
def FY(k:cQ h fj≠Yj):h=iR\/h=nH\/h=sI\/h=jd\/h=fV\/h=qe\/h=iC:=by
 by_cases h1:h=iR
 .exact .inl h1
 by_cases h2:h=nH
 .exact .inr<|.inl h2
 by_cases h3:h=sI
 .exact .inr<|.inr<|.inl h3
 by_cases h4:h=jd
 .exact .inr<|.inr<|.inr<|.inl h4
 by_cases h5:h=fV
 .exact .inr<|.inr<|.inr<|.inr<|.inl h5
 by_cases h6:h=qe
 .exact .inr<|.inr<|.inr<|.inr<|.inr<|.inl h6
 by_cases h7:h=iC
 .exact .inr<|.inr<|.inr<|.inr<|.inr<|.inr h7
 .exact k9 (show cQ h fj=Yj by simp only[fj,cQ,d4 h1,d4 h2,d4 h3,d4 h4,d4 h5,d4 h6,d4 h7]) k
def F0(k:cQ h fj≠Yj):1<=B h/\h.length<=5/\∀c∈h,97<=c:=by rcases FY k with rfl|rfl|rfl|rfl|rfl|rfl|rfl <;>decide
def Lk(H:gJ r):∀w∈r.words,B w<=61/\32∉w/\10∉w:=λw hw=>by
 have low:∀{c:Nat} {l:b9},(∀x∈l,45<=x)->c<45->c∉l:=λh hc z=>by have:=h _ z;omega
 rcases Yo.mp hw with e|e
 .have q:=F0<|FX H;rw[e];exact⟨b5,low (λx hx=>Yi aaA<|q.2.2 x hx) aaA,low (λx hx=>Yi aaA<|q.2.2 x hx) aaA⟩
 .rcases gF.mp e with e|e
  .have q:=H.nm w e;exact⟨Yi q.le aaA,low (λx hx=>Yi aaA (q.low x hx).1) aaA,low (λx hx=>Yi aaA (q.low x hx).1) aaA⟩
  .let⟨v,hv,rfl⟩:=kZ.mp e;have hf:=D0 H.ok.fit v hv;have key:∀x∈bL v,45<=x:=by
    cases hf with
    |int i hi=>exact(E6 i hi).2.2|eQ x hx=>exactλc hc=>Yi aaA (hx.low c hc).1|op x hx=>exactλc hc=>Yi aaA<|(Fu hx).2.2 c hc
   exact⟨ZuK hf,low key aaA,low key aaA⟩
def F1(H:gJ r):B r.words<=60:=by have:=H.le;simp only[Rw.words,Yp,Yd,Ym];omega
def F2(H:gJ r):sU r.words:=by
 have hw:=Lk H;have hl:=(Dg 32 61 r.words λw h=>(hw w h).1).2;have hc:=F1 H;refine⟨nofun,λw h=>(hw w h).2,λz=>?_,b5⟩;have q:=(F0<|FX H).1;have:r.h≠[]:=λe=>by rw[e]at q;exact k9 q aaA
 unfold Rw.words at z;cases e:r.xs++(bN r.ts).map bL with
 |nil=>rw[e]at z;exact this z|cons y ys=>rw[e,sE]at z;exact this (HX.mp z).1
def F4(H:gJ r)(M:b3):CK [.U r.n5] M= .ok (.str<|glue [32] r.words) M:=by
 have rX:=FA r.ts;have hle:=H.le;let⟨G,y,h⟩:=Zpc (M:=M) (W0:=O<|.U r.n5) (it:=⟨r.tl,Yj⟩) J r.tl [r.h] [] Yj (Rw.parts H) (by
  have:B r.tl<=3:=by
   have hx:=H.nx;have hs:=FY<|FX H;have hsm:=H.sm;have h2:B r.ts<=2:=by rcases hs with e|e|e|e|e|e|e<;>(rw[e]at hsm;have:=fM hsm;omega)
   have h1:B r.xs<=1:=by rw[hx];split <;>omega
   simp only[Rw.tl,Yd,Ym];omega
  simp;omega)
 refine Rt.pure (G:=.L (([r.h]++r.tl.flatMap sV).map D.str)::G) (env:=[O<|.U r.n5,Yj,Yj]) ?_ J;unfold Z6;refine(Zi<|Zq (d:=.ref<|B M) (M':=M++[.L [.str r.h]])<|bM (Zo (Zf J J<|zr<|cP _ 0) J) J).trans ?_;have hit:eG kS [O<|.U r.n5,My<|B M,Yj] (M++[.L [.str r.h]])= .ok ⟨r.tl,Yj⟩ (M++[.L [.str r.h]]):=by show R3.ok (⟨cutD r.n5 (O ((1:Nat):Int)) Yj,Yj⟩:ir) _=_;rw[vY];rfl
 refine(Zi<|(BP hit).trans h).trans ?_;have ew:([r.h]++r.tl.flatMap sV)=r.words:=r.AdR;rw[ew];have hz:=(Dg 32 61 r.words λw h=>(Lk H w h).1).1;have hc:=F1 H;exact b7 (sG J J<|K_ (Zm _ _ _)<|Yi (show _<=10000 by omega) aaA)
variable{a:Nat}
def mL.mono{a':Nat}(h:mL cs c d M S a a' n)(k:n<=m):mL cs c d M S a a' m:=⟨h.dk,h.kp,Yi h.le<|Nat.add_le_add_left k _⟩
def mL.app{G:b3}{a':Nat}(h:mL cs c d (M++G) S a a' n):mL cs c d M S a a' n:=⟨h.dk,(Kp.app d M G).trans h.kp,h.le⟩
def mL.trans{T:b3}{a b e n m:Nat}(h:mL cs c d M S a b n)(k:mL cs c d S T b e m):mL cs c d M T a e (n+m):=⟨k.dk,h.kp.trans k.kp,by have:=h.le;have:=k.le;omega⟩
def Ln{t:Sm}(hs:cQ h fj=O 1)(hn:h≠iR)(f:t.fit)(dp:t.dp<=6)(l:B t.flat<=50):gJ ⟨h,[],[t]⟩:=by
 have el:B (bN [t])=B t.flat:=by simp[bN]
 refine⟨hs,by rw[d4 hn];rfl,nofun,⟨λs hs=>by rwa[Yx.mp hs],by show(bN [t]).length<=60;omega,?_⟩,by show 0+B (bN [t])<=59;omega⟩;show((t.dp+0:Nat):Int)<=6;omega
def ZtL{x:b9}{t:Sm}(hx:b_ x)(f:t.fit)(dp:t.dp<=6)(l:B t.flat<=50):gJ ⟨iR,[x],[t]⟩:=by
 have el:B (bN [t])=B t.flat:=by simp[bN]
 refine⟨rfl,rfl,λy hy=>by rwa[Yx.mp hy],⟨λs hs=>by rwa[Yx.mp hs],by show(bN [t]).length<=60;omega,?_⟩,by show 1+B (bN [t])<=59;omega⟩;show((t.dp+0:Nat):Int)<=6;omega
def ZwD{t u:Sm}(f:t.fit)(g:u.fit)(dp:t.dp<=6)(ZzO:u.dp<=5)(l:B t.flat<=29)(l2:B u.flat<=29):gJ ⟨nH,[],[t,u]⟩:=by
 have el:B (bN [t,u])=B t.flat+B u.flat:=by simp[bN]
 refine⟨rfl,rfl,nofun,⟨λs hs=>?_,by show(bN [t,u]).length<=60;omega,?_⟩,by show 0+B (bN [t,u])<=59;omega⟩
 .rcases Yo.mp hs with e|e
  .rwa[e]
  .rwa[Yx.mp e]
 .show(if((u.dp+(0+1):Nat):Int)>((t.dp+0:Nat):Int)then((u.dp+(0+1):Nat):Int)else((t.dp+0:Nat):Int))<=6;split <;>omega
structure Zpg(r:Rw):Prop where
 b:sO r.h=false
 e:r.h≠fV
 n:r.h≠iC
section
variable {cs:List Int} {c d:Nat} {M:b3} {ao:Nat}
def Zt1(dk:cW cs c d ao M)(r9:M[nr]?=O (.L<|names.map D.str))(nd:nr≠d)(hn:B names=12)(qV:∀x∈names,b_ x)(ha:ao+120<1000000)(v:Int):
  ∃(r:Rw) (S:b3) (at':Nat),gJ r/\Zpg r/\Q0 [.ref d,.ref nr,.int v] M= .ok (.U r.n5) S/\mL cs c d M S ao at' 120:=by
 have ld:=dk.lt;let⟨a,ea,ha4⟩:=fC (v / 10) 4 aaA;have ea:v / 10 % 4=(a:Int):=ea;let⟨b,eb,hb⟩:=fC (v / 3) 6 aaA;have eb:v / 3 % 6=(b:Int):=eb;let⟨b2,Dq,hb2⟩:=fC (v / 7) 5 aaA;have Dq:v / 7 % 5=(b2:Int):=Dq
 let M1:=M++[MO.L [.int 3,.int 3,.int 7,.int 20]]
 have m1:∃m:Nat,1<=m/\m<=20/\[D.int 3,.int 3,.int 7,.int 20][a]?=c8 (m:Int):=by
  match a,ha4 with
  |0,_=>exact⟨3,aaA,aaA,rfl⟩|1,_=>exact⟨3,aaA,aaA,rfl⟩|2,_=>exact⟨7,aaA,aaA,rfl⟩|3,_=>exact⟨20,aaA,aaA,rfl⟩
 let⟨m0,C6,B7,hm3⟩:=m1;have s3:aC 3 ck [My d,My nr,c8 v,Yj,Yj] M= .nx [My d,My nr,c8 v,c8 (m0:Int),Yj] M1:=Zq (Zf (bM (ds:=[.int 3,.int 3,.int 7,.int 20]) J J) r6<|dO (Zm _ _ _)<|by rwa[ea,cP]);have s4:∃m:Nat,1<=m/\m<=29/\aG fm (aC 3<|eC<|.int 29) aW [My d,My nr,c8 v,c8 (m0:Int),Yj] M1= .nx [My d,My nr,c8 v,c8 (m:Int),Yj] M1:=by
  by_cases z:v / 40 % 11=1
  .exact⟨29,aaA,aaA,(cO (M':=M1)<|Zf r6 J<|nq z).trans<|Zq J⟩
  .exact⟨m0,C6,b5,cZ (M':=M1)<|Zf r6 J<|pK z⟩
 let⟨m,C6,Aa6,s4⟩:=s4;let⟨t,S1,A0,f1,f2,f3,f4,D1⟩:=Ru (M:=M1) (most:=m) (deep:=1+b) (dk.app _) (Zj r9 _) nd hn qV b5 C6 (iG _ _) (by omega:ao+60<1000000);have uF:mL cs c d M S1 ao A0 60:=mL.app (G:=[MO.L [.int 3,.int 3,.int 7,.int 20]]) D1;have s5:aC 4 cx [My d,My nr,c8 v,c8 (m:Int),Yj] M1= .nx [My d,My nr,c8 v,c8 (m:Int),O<|.U t.flat] S1:=by refine Zq<|Fz J J (c:=.int ((1+b:Nat):Int)) (Zf J r6 ?_) J f4;rw[oF,eb];congr 2
 have start:∀{o:O3},(Zt bP ba) [My d,My nr,c8 v,c8 (m:Int),O<|.U t.flat] S1=o->Z5 [My d,My nr,c8 v,Yj,Yj] M=o:=λh=>(Zi s3).trans<|(Zi s4).trans<|(Zi s5).trans h;have m3:∀{k:Int},e2 Zx (Zb 2) pS [My d,My nr,c8 v,c8 (m:Int),O<|.U t.flat] S1= .ok (.int<|v % 3) S1:=Zf J J<|cg aaA;by_cases h0:v % 3=0
 .let⟨x,ex,hx⟩:=fC (v / 440) 12 aaA;have ex:v / 440 % 12=(x:Int):=ex;have FR:names[x]?=O (names[x]'(by omega)):=Y0 _;have FU:S1[nr]?=O (.L<|names.map D.str):=uF.kp.get r9 nd
  let r:Rw:=⟨iR,[names[x]'(by omega)],[t]⟩
  have rq:=start (o:=.rt (.U r.n5) S1) (iK<|(cO (M':=S1)<|Zf (m3 (k:=0)) J<|nq h0).trans<|b7<|qL (Zo J<|Zo (Zf J r6<|dO FU (d:=.str<|names[x]'(by omega)) (by rw[ex,cP,jg,FR];rfl)) yA) J);let⟨S,e,D⟩:=Lj (ao:=ao) (x:=.U r.n5) (n:=60) ld uF.dk uF.kp uF.le;exact⟨r,S,A0,ZtL (qV _<|tO _) f1 b5 b5,⟨rfl,show iR≠fV by decide,show iR≠iC by decide⟩,(jT rq).trans e,D.mono aaA⟩
 have c0:=cZ (M':=S1) (f:=aM cy)<|Zf (m3 (k:=0)) (g:=eC<|.int 0) J<|pK h0;by_cases h1:v % 3=1
 .let⟨u,S2,at2,g1,g2,g3,g4,D2⟩:=Ru (most:=m) (deep:=1+b2) uF.dk (uF.kp.get r9 nd) nd hn qV b5 C6 (iG _ _) (by have:=uF.le;omega);have F5:=uF.trans D2
  let r:Rw:=⟨nH,[],[t,u]⟩
  have rq:=start (o:=.rt (.U r.n5) S2) ((Zi c0).trans<|iK<|(cO (M':=S1)<|Zf (m3 (k:=0)) J<|nq h1).trans<|b7<|qL (Zo J<|Zo J<|Zo (Fz J J (c:=.int ((1+b2:Nat):Int)) (Zf J r6 (by rw[oF,Dq];congr 2)) J g4) J) J);let⟨S,e,D⟩:=Lj (ao:=ao) (x:=.U r.n5) (n:=120) ld F5.dk F5.kp F5.le;exact⟨r,S,at2,ZwD f1 g1 b5 b5 (Yi f3 Aa6)<|Yi g3 Aa6,⟨rfl,show nH≠fV by decide,show nH≠iC by decide⟩,(jT rq).trans e,D⟩
 .let r:Rw:=⟨sI,[],[t]⟩
  have rq:=start (o:=.rt (.U r.n5) S1)<|(Zi c0).trans<|(Zi<|cZ (M':=S1)<|Zf (m3 (k:=0)) J<|pK h1).trans<|b7<|qL J J;let⟨S,e,D⟩:=Lj (ao:=ao) (x:=.U r.n5) (n:=60) ld uF.dk uF.kp uF.le;exact⟨r,S,A0,Ln J aaA f1 b5 b5,⟨rfl,show sI≠fV by decide,show sI≠iC by decide⟩,(jT rq).trans e,D.mono aaA⟩
end
structure Fr where
 e:Nat
 o:Nat
 w:b9
 t:Sm
 out:c9
 ah:Option c9
def xX:Option c9->D
 |none=>.Z|some a=>.U a
abbrev Fr.obj(f:Fr):MO:=.L [.str f.w,.U f.t.flat,.ref f.o,xX f.ah]
abbrev iU(s:Nat)(fs:List Fr):b9:=s::fs.map (·.e)
structure cM(n0:Nat)(S:b3)(s dr:Nat)(cur:c9)(fs:List Fr):Prop where
 hs:S[s]?=O (.L (fs.map λf=>D.ref f.e).reverse)
 he:∀f∈fs,S[f.e]?=O f.obj
 ho:∀f∈fs,S[f.o]?=O (.L f.out)
 hc:S[dr]?=O (.L cur)
 nd:(iU s fs).Nodup
 dj:∀a∈iU s fs,a≠dr/\∀f∈fs,a≠f.o
 lo:n0<=dr/\(∀a∈iU s fs,n0<=a)/\∀f∈fs,n0<=f.o
variable{n9:c9}
section
variable {n0:Nat} {S S':b3} {s dr:Nat} {cur:c9} {fs:List Fr}
def cM.frame(K:cM n0 S s dr cur fs)(h:∀a,n0<=a->a<B S->S'[a]?=S[a]?):cM n0 S' s dr cur fs:=by
 have q:∀{i:Nat} {o:MO},S[i]?=O o->i<B S:=λh=>(Yg.mp h).1;refine⟨?_,λf hf=>?_,λf hf=>?_,?_,K.nd,K.dj,K.lo⟩
 .rw[h s (K.lo.2.1 s Ye)<|q K.hs];exact K.hs
 .rw[h f.e (K.lo.2.1 f.e<|Yf _<|tM hf)<|q<|K.he f hf];exact K.he f hf
 .rw[h f.o (K.lo.2.2 f hf)<|q<|K.ho f hf];exact K.ho f hf
 .rw[h dr K.lo.1<|q K.hc];exact K.hc
def cM.app(K:cM n0 S s dr cur fs)(G:b3):cM n0 (S++G) s dr cur fs:=K.frame λa _ h=>Yk h
def cM.kp(K:cM n0 S s dr cur fs)(hd:d<n0)(k:Kp d S S'):cM n0 S' s dr cur fs:=K.frame λa h1 h2=>k.old a h2 (λz=>by omega)
def cM.lt(K:cM n0 S s dr cur fs):(∀a∈iU s fs,a<B S)/\dr<B S/\∀f∈fs,f.o<B S:=by
 have q:∀{i:Nat} {o:MO},S[i]?=O o->i<B S:=λh=>(Yg.mp h).1;refine⟨λa ha=>?_,q K.hc,λf hf=>q<|K.ho f hf⟩;rcases Yo.mp ha with e|e
 .rw[e];exact q K.hs
 .let⟨f,hf,rfl⟩:=kZ.mp e;exact q<|K.he f hf
def cM.now(K:cM n0 S s dr cur fs){cj:Nat}(h:S[cj]?=O (.L n9))(hl:n0<=cj)(hn:cj∉iU s fs):cM n0 S s cj n9 fs:=⟨K.hs,K.he,K.ho,h,K.nd,λa ha=>⟨λe=>hn<|e▸ha,(K.dj a ha).2⟩,hl,K.lo.2⟩
def cM.C4{f:Fr}(K:cM n0 S s dr cur (f::fs))(a:c9):cM n0 (S.set f.e<|Fr.obj {f with ah:=O a}) s dr cur ({f with ah:=O a}::fs):=by
 have nd:=K.nd;simp only[iU,Yw,lO,Yo,not_or]at nd;have hm:f.e∈iU s (f::fs):=Yf _ Ye;have dj:=K.dj f.e hm;have o:∀x,f.e≠x->(S.set f.e<|Fr.obj {f with ah:=O a})[x]?=S[x]?:=λx h=>Ys h;refine⟨?_,λg hg=>?_,λg hg=>?_,?_,K.nd,λx hx=>⟨(K.dj x hx).1,λg hg=>?_⟩,K.lo.1,K.lo.2.1,λg hg=>?_⟩
 .rw[o s<|cu nd.1.1];exact K.hs
 .rcases Yo.mp hg with e|e
  .rw[e];exact Y4<|K.lt.1 _ hm
  .rw[o g.e λz=>nd.2.1<|z▸tM e];exact K.he g<|Yf _ e
 .rcases Yo.mp hg with e|e
  .rw[e];show _=O (MO.L f.out);exact(o f.o<|dj.2 f Ye).trans (K.ho f Ye)
  .rw[o g.o<|dj.2 g<|Yf _ e];exact K.ho g<|Yf _ e
 .rw[o dr dj.1];exact K.hc
 .rcases Yo.mp hg with e|e
  .rw[e];exact(K.dj x hx).2 f Ye
  .exact(K.dj x hx).2 g (Yf _ e)
 .rcases Yo.mp hg with e|e
  .rw[e];exact K.lo.2.2 f Ye
  .exact K.lo.2.2 g<|Yf _ e
def cM.pop{f:Fr}(K:cM n0 S s dr cur (f::fs)){cj:Nat}(h:S[cj]?=O (.L n9))(hl:n0<=cj)(hn:cj∉iU s (f::fs)):cM n0 (S.set s<|.L (fs.map λf=>D.ref f.e).reverse) s cj n9 fs:=by
 have nd:=K.nd;simp only[iU,Yw,lO,Yo,not_or]at nd;have hm:s∈iU s (f::fs):=Ye;have sub:∀a∈iU s fs,a∈iU s (f::fs):=λa ha=>by
  rcases Yo.mp ha with e|e
  .rw[e];exact Ye
  .exact Yf _<|Yf _ e
 have o:∀x,s≠x->(S.set s<|.L (fs.map λf=>D.ref f.e).reverse)[x]?=S[x]?:=λx h=>Ys h;refine⟨Y4<|K.lt.1 s hm,λg hg=>?_,λg hg=>?_,?_,lO.mpr ⟨nd.1.2,nd.2.2⟩,λx hx=>⟨λe=>hn<|e▸sub x hx,λg hg=>(K.dj x<|sub x hx).2 g<|Yf _ hg⟩,hl,λa ha=>K.lo.2.1 a<|sub a ha,λg hg=>K.lo.2.2 g<|Yf _ hg⟩
 .rw[o g.e λz=>nd.1.2<|z▸tM hg];exact K.he g<|Yf _ hg
 .rw[o g.o<|(K.dj s hm).2 g<|Yf _ hg];exact K.ho g<|Yf _ hg
 .rwa[o cj λz=>hn<|z▸hm]
def cM.push(K:cM n0 S s dr cur fs)(hn:n0<=B S)(w:b9)(t:Sm):cM n0 (((S++[Fr.obj ⟨B S,dr,w,t,cur,Yj⟩]).set s<|.L<|(fs.map λf=>D.ref f.e).reverse++[.ref<|B S])++[.L []]) s (B S+1) [] (⟨B S,dr,w,t,cur,Yj⟩::fs):=by
 have j1:=K.lt;have hm:s∈iU s fs:=Ye;have F6:=j1.1 s hm
 let S1:=(S++[Fr.obj ⟨B S,dr,w,t,cur,Yj⟩]).set s<|.L<|(fs.map λf=>D.ref f.e).reverse++[.ref<|B S]
 have l1:B S1=B S+1:=by simp[S1]
 have o:∀x,s≠x->x<B S->(S1++[MO.L []])[x]?=S[x]?:=λx h hx=>by rw[Yk b5];show((S++_).set s _)[x]?=_;rw[Ys h,Yk hx]
 have one:∀x∈iU s (⟨B S,dr,w,t,cur,Yj⟩::fs),x=B S\/x∈iU s fs:=λx hx=>by
  rcases Yo.mp hx with e|e
  .exact .inr (by rw[e];exact Ye)
  .rcases Yo.mp e with e|e
   .exact .inl e
   .exact .inr<|Yf _ e
 refine⟨?_,λg hg=>?_,λg hg=>?_,?_,?_,λx hx=>⟨?_,λg hg=>?_⟩,b5,λx hx=>?_,λg hg=>?_⟩
 .show(S1++_)[s]?=_;rw[Yk b5];show((S++_).set s _)[s]?=_;rw[Y4 (by rw[Yd];exact Ig _ F6)];simp
 .rcases Yo.mp hg with e|e
  .rw[e];show(S1++_)[B S]?=_;rw[Yk b5];show((S++_).set s _)[B S]?=_;rw[Ys<|by exactλz=>by omega];exact Zm _ _ _
  .have hge:g.e∈iU s fs:=Yf _<|tM e;rw[o g.e (λz=>(lO.mp K.nd).1<|z▸tM e)<|j1.1 _ hge];exact K.he g e
 .rcases Yo.mp hg with e|e
  .rw[e];show(S1++_)[dr]?=O (.L cur);rw[o dr (K.dj s hm).1 j1.2.1];exact K.hc
  .rw[o g.o ((K.dj s hm).2 g e)<|j1.2.2 g e];exact K.ho g e
 .show(S1++_)[B S+1]?=_;rw[<-l1];exact Zm _ _ _
 .have nd:=lO.mp K.nd;refine lO.mpr ⟨?_,lO.mpr ⟨?_,nd.2⟩⟩
  .intro z;rcases Yo.mp z with e|e
   .have e:s=B S:=e;omega
   .exact nd.1 e
  .intro z;have:=j1.1 _<|Yf _ z;exact wM _ this
 .rcases one x hx with e|e
  .exactλz=>by omega
  .have:=j1.1 x e;exactλz=>by omega
 .rcases Yo.mp hg with z|z
  .rw[z];show x≠dr;rcases one x hx with e|e
   .have:=j1.2.1;exactλz=>by omega
   .exact(K.dj x e).1
  .rcases one x hx with e|e
   .have:=j1.2.2 g z;exactλz=>by omega
   .exact(K.dj x e).2 g z
 .rcases one x hx with e|e
  .omega
  .exact K.lo.2.1 x e
 .rcases Yo.mp hg with z|z
  .rw[z];exact K.lo.1
  .exact K.lo.2.2 g z
end
def iV:c9->List Fr->List Pf
 |cur,[]=>[⟨lG,[],[],cur⟩]|cur,f::fs=>⟨f.w,[.U f.t.flat],f.ah.toList,cur⟩::iV f.out fs
def ZrX(cur:c9)(fs:List Fr):B (iV cur fs)=B fs+1:=by
 induction fs generalizing cur with
 |nil=>rfl|cons f fs ih=>exact congrArg (· +1)<|ih f.out
def Fr.ok(f:Fr):Prop:=f.w=jd\/(f.w=qe/\f.ah=Yj)
def Rv(h:B M<=n):gj M (.ref n) M'= .ok (.ref n) M':=by
 have hb:below (B M) (.ref n)=false:=by show decide (n<B M)=false;exact j3 (λz=>by omega)
 unfold gj;rw[hb];rfl
abbrev Fr.pf(f:Fr)(cur:c9):Pf:=⟨f.w,[.U f.t.flat],f.ah.toList,cur⟩
def Fr.done(f:Fr):Prop:=(f.w=jd/\∃a,f.ah=O a)\/(f.w=qe/\f.ah=Yj)
section
variable {n0:Nat} {S:b3} {s dr:Nat} {cur:c9} {fs:List Fr} {f:Fr}
def cM.top(K:cM n0 S s dr cur (f::fs))(hv:Zb i env S= .ok (.ref s) S):e2 Zn (Zb i) nX env S= .ok (.ref f.e) S:=by refine Zf hv Au<|dO K.hs ?_;rw[Yw,yK];exact getD_last _ _
def cM.t5(K:cM n0 S s dr cur (f::fs))(hv:Zb i env S= .ok (.ref s) S):e2 Zn (e2 Zn (Zb i) nX) pz env S= .ok (.str f.w) S:=Zf (K.top hv) J<|dO (K.he f Ye)<|cP _ 0
def cM.Ms(K:cM n0 S s dr cur (f::fs))(hv:Zb i env S= .ok (.ref s) S):e2 Zn (e2 Zn (Zb i) nX) pS env S= .ok (xX f.ah) S:=Zf (K.top hv) J<|dO (K.he f Ye)<|cP _ 3
def ZlD(K:cM n0 S s dr cur (f::fs))(hd:f.done)(hz:B f.out<=1000):
  zU [.ref s,.ref dr] S= .ok (.ref<|B S+1) (S++[.L [(f.pf cur).whole],.L<|f.out++[(f.pf cur).whole]]):=by
 let E:bO:=[My s,My dr,i5 f.w,O<|.U f.t.flat,My f.o,O<|xX f.ah,Yj]
 have a1:xr (e2 Zn (Zb 0) nX) [2,3,4,5] [My s,My dr,Yj,Yj,Yj,Yj,Yj] S= .nx E S:=by unfold xr;rw[K.top J];simp only[K.he f Ye];rfl
 have fin:∀{E':bO},E'=E.set 6 (O (f.pf cur).whole)->aM (e2 Zv (Zb 4)<|Zz oS) E' S= .rt (.ref<|B S+1) (S++[.L [(f.pf cur).whole],.L<|f.out++[(f.pf cur).whole]]):=λh=>by subst h;refine b7<|(Zf J (bM yA J)<|mH (Zj (K.ho f Ye) _) (Zm _ _ _) r0).trans ?_;simp
 refine(jT (M':=S++[.L [(f.pf cur).whole],.L<|f.out++[(f.pf cur).whole]]) (env:=[My s,My dr,Yj,Yj,Yj,Yj,Yj]) ?_).trans (Rv<|tU _);unfold Z7;refine(Zi a1).trans ?_;have t1:aD iy oy E S= .ok (.U cur) S:=bR J<|vD K.hc;refine(Zi<|Zq (d:=.U [.str f.w,.U f.t.flat,.U cur]) (M':=S)<|qL (Zo J<|Zo J<|Zo t1 J) J).trans ?_;rcases hd with⟨hw,a,ea⟩|⟨hw,ea⟩;refine(Zi ((cO (M':=S) (Zf J J (jC.trans (by rw[j2 hw])))).trans (Zq (d:=(f.pf cur).whole) (M':=S) ((qL (ds:=[.str f.w,.U f.t.flat,xX f.ah,.U cur]) (Zo J (Zo J (Zo J (Zo (bR J (vD K.hc)) J)))) J).trans ?_)))).trans (fin J);simp[Pf.whole,ea,xX];refine(Zi (cZ (M':=S) (Zf J J (jC.trans (by rw[j3 (by rw[hw];decide)]))))).trans (fin ?_);simp[E,Pf.whole,ea]
def cM.GQ(K:cM n0 S s dr cur fs)(hv:Zb i env S= .ok (.ref s) S):e2 ur (Zb i) (Zz Ze) env S= .ok (.bl<|!fs.isEmpty) (S++[.L []]):=by refine Zf hv tw<|(Zsr (Zj K.hs _)<|Zm _ _ _).trans ?_;cases fs<;>simp
def GR(way:Nat):List Fr->Bool
 |[]=>false|f::_=>decide (way=8)&&(decide (f.w=jd)&&f.ah.isNone)
def sF(way:Nat):List Fr->Bool
 |[]=>false|f::_=>decide (7<way)&&(decide (f.w=qe)|| f.ah.isSome)
def F7(a:Option c9)(M:b3):pJ (xX a) .Z M= .ok (.bl a.isNone) M:=by cases a<;>simp[xX]
def Zwv(a:Option c9)(M:b3):Jk (xX a) .Z M= .ok (.bl a.isSome) M:=by cases a<;>simp[xX]
def Zs9(K:cM n0 S s dr cur fs){way:Nat}(hv:∀M,Zb 2 env M= .ok (.ref s) M)(h5:∀M,Zb 5 env M= .ok (.int (way:Int)) M):
  ∃G,cN (e2 aN (Zb 5) pV) (cN nK<|cN dP fg) env S= .ok (.bl<|GR way fs) (S++G):=by
 by_cases h8:way=8
 .refine⟨[.L []],?_⟩;rw[jV (M1:=S)<|Zf (h5 S) J<|nq<|tW b5 b5];cases fs with
  |nil=>exact pN (K.GQ<|hv S)|cons f fs=>
   rw[jV<|K.GQ<|hv S];have K1:=K.app [MO.L []];by_cases hw:f.w=jd
   .rw[jV<|Zf (K1.t5<|hv _) J<|jC.trans<|by rw[j2 hw]];refine(Zf (K1.Ms<|hv _) J<|F7 f.ah _).trans ?_;simp[GR,h8,hw]
   .rw[pN<|Zf (K1.t5<|hv _) J<|jC.trans<|by rw[j3 hw]];simp[GR,hw]
 .refine⟨[],?_⟩;rw[pN (M1:=S) (Zf (h5 S) J<|pK λz=>by omega),iD];cases fs<;>simp[GR,h8]
def Zrn(K:cM n0 S s dr cur fs){way:Nat}(hv:∀M,Zb 2 env M= .ok (.ref s) M)(h5:∀M,Zb 5 env M= .ok (.int (way:Int)) M):
  ∃G,cN (e2 dW (Zb 5) qa) (cN nK<|dh dE fh) env S= .ok (.bl<|sF way fs) (S++G):=by
 by_cases h8:7<way
 .refine⟨[.L []],?_⟩;rw[jV (M1:=S)<|Zf (h5 S) J<|by rw[j6,j2 b5]];cases fs with
  |nil=>exact pN (K.GQ<|hv S)|cons f fs=>
   rw[jV<|K.GQ<|hv S];have K1:=K.app [MO.L []];by_cases hw:f.w=qe
   .rw[pM<|Zf (K1.t5<|hv _) J<|jC.trans<|by rw[j2 hw]];simp[sF,h8,hw]
   .rw[iZ<|Zf (K1.t5<|hv _) J<|jC.trans<|by rw[j3 hw]];refine(Zf (K1.Ms<|hv _) J<|Zwv f.ah _).trans ?_;simp[sF,h8,hw]
 .refine⟨[],?_⟩;rw[pN (M1:=S) (Zf (h5 S) J<|by rw[j6,j3<|by exactλz=>by omega]),iD];cases fs<;>simp[sF,h8]
end
structure Zxg(n0:Nat)(cs:List Int)(c d:Nat)(S S':b3)(s n' cj:Nat)(r:Rw)(cur:c9)(fs:List Fr)(n9:c9)(rL:List Fr)(at' k:Nat):Prop where
 out:S'[n']?=O (.L [.str<|glue [32] r.words,.ref cj])
 iI:cM n0 S' s cj n9 rL
 dk:cW cs c d at' S'
 ok:gJ r
 st:mJ r (iV cur fs)=O (iV n9 rL)
 fr:∀f∈rL,f.ok
 le:B rL<=12
 bd:B n9<=k+1/\∀f∈rL,B f.out<=k+1
 old:∀a,a<B S->a≠d->a∉iU s fs->S'[a]?=S[a]?
 len:B S<=S'.length
def ZtE:gJ ⟨fV,[],[]⟩:=⟨rfl,rfl,nofun,⟨nofun,aaA,aaA⟩,aaA⟩
def ZrP:gJ ⟨iC,[],[]⟩:=⟨rfl,rfl,nofun,⟨nofun,aaA,aaA⟩,aaA⟩
variable{cur:c9}
def ZnA{f:Fr}{fs:List Fr}(hw:f.w=jd)(ha:f.ah=Yj):mJ ⟨fV,[],[]⟩ (iV cur<|f::fs)=O (iV []<|{f with ah:=O cur}::fs):=by show stepK _ (f.pf cur) (iV f.out fs)=_;unfold stepK;rw[d4 aaA,c_ J,c_ ⟨hw,by simp[ha]⟩];rfl
def F8(fs:List Fr)(x:c9)(w:D):∃k ks,iV x fs=k::ks/\k.cur=x/\iV (x++[w]) fs=⟨k.h,k.hd,k.cl,k.cur++[w]⟩::ks:=by
 cases fs with
 |nil=>exact⟨_,_,rfl,rfl,rfl⟩|cons f fs=>exact⟨_,_,rfl,rfl,rfl⟩
def Znf{f:Fr}{fs:List Fr}(hd:f.done)(hz:B f.out<1000):mJ ⟨iC,[],[]⟩ (iV cur<|f::fs)=O (iV (f.out++[(f.pf cur).whole]) fs):=by
 let⟨k,ks,e1,e2,e3⟩:=F8 fs f.out (f.pf cur).whole;show stepK _ (f.pf cur) (iV f.out fs)=_;rw[e1,e3];unfold stepK;rw[d4 aaA,d4 aaA,c_ J];refine c_ ⟨?_,(show 1<100 by decide),?_,by rwa[e2]⟩
 .rcases hd with⟨hw,a,ea⟩|⟨hw,ea⟩
  .show Dl f.w=((B f.ah.toList+1:Nat):Int);rw[hw,ea];rfl
  .show Dl f.w=((B f.ah.toList+1:Nat):Int);rw[hw,ea];rfl
 .show B f.ah.toList<100;cases f.ah with
  |none=>exact(show 0<100 by decide)|some _=>exact(show 1<100 by decide)
def Zn5{fs:List Fr}(hp:Zpg r)(hz:B cur<1000):mJ r (iV cur fs)=O (iV (cur++[.U r.n5]) fs):=by let⟨k,ks,e1,e2,e3⟩:=F8 fs cur<|.U r.n5;rw[e1,e3];show stepK r k ks=_;unfold stepK;rw[d4 (by rw[hp.b];decide),d4 hp.e,d4 hp.n];exact c_ (by rwa[e2])
def Zry{w:b9}{t:Sm}{fs:List Fr}{o:Nat}(hw:sO w=true)(hl:B fs<12):mJ ⟨w,[],[t]⟩ (iV cur fs)=O (iV []<|⟨e,o,w,t,cur,Yj⟩::fs):=by
 let⟨k,ks,e1,_,_⟩:=F8 fs cur .Z;have hk:B ks=B fs:=by have:=ZrX cur fs;rw[e1,Yp]at this;exact fY b5 b5
 rw[show iV [] (⟨e,o,w,t,cur,Yj⟩::fs)=⟨w,[.U t.flat],[],[]⟩::iV cur fs from rfl,e1];show stepK _ k ks=_;unfold stepK;rw[c_ hw];exact c_ b5
section
variable {n0:Nat} {S:b3} {s dr:Nat} {cur:c9} {fs:List Fr} {cs:List Int} {c d ao:Nat}
def Lp{L:b9}(h:∀a∈L,a<n){x:Nat}(hx:n<=x):x∉L:=λz=>by have:=h x z;omega
def len_app(M G:b3):B M<=B (M++G):=by rw[Yd];exact iG _ _
def F9{q q':D->D->b3->R3 D}{f g h:E3}{x y z r:D}(h1:f env M= .ok x M)(h2:g env M= .ok y M)(h3:q x y M= .ok (.bl true) M)(h4:h env M= .ok z M)(h5:q' y z M= .ok r M):rZ q q' f g h env M= .ok r M:=by simp only[rZ,h1,h2,h3,h4,h5,R3.bind]
def ZuB{q q':D->D->b3->R3 D}{f g h:E3}{x y:D}(h1:f env M= .ok x M)(h2:g env M= .ok y M)(h3:q x y M= .ok (.bl false) M):rZ q q' f g h env M= .ok (.bl false) M:=by simp only[rZ,h1,h2,h3,R3.bind]
def ZvV{v x0 x1 x2 x3:D}(h:M[n]?=O (.L [x0,x1,x2,x3])):WT v (.ref n) (.int 3) M= .ok .Z (M.set n<|.L [x0,x1,x2,v]):=by simp only[Ts,h];rfl
theorem ZxW{nr k:Nat}(K:cM n0 S s dr cur fs)(dk:cW cs c d ao S)(r9:S[nr]?=O (.L<|names.map D.str))(nd:nr≠d)(hn:B names=12)(qV:∀x∈names,b_ x)(hd0:c<n0/\d<n0)(hn0:n0<=B S)(Lq:∀f∈fs,f.ok)(hlen:B fs<=12)(hb:B cur<=k/\∀f∈fs,B f.out<=k)(hk:k<900)(ha:ao+200<1000000):
  ∃(r:Rw) (S':b3) (n' cj:Nat) (n9:c9) (rL:List Fr) (at':Nat),CP [.ref d,.ref nr,.ref s,.ref dr] S= .ok (.ref n') S'/\Zxg n0 cs c d S S' s n' cj r cur fs n9 rL at' k/\at'<=ao+121:=by
 let⟨v,S1,hv,D1,nP,l1⟩:=dk.draw b5;have K1:=K.kp hd0.2 nP;let⟨way,ew,AfX⟩:=fC v 10 aaA;have ew:v % 10=(way:Int):=ew
 let E:bO:=[My d,My nr,My s,My dr,c8 v,c8 (way:Int),Yj,Yj,Yj]
 let⟨GA,cA⟩:=Zs9 K1 (env:=E) (way:=way) (λ_=>rfl) λ_=>rfl;have h0:∀{rest:S3} {o:O3},rest E S1=o->Zt (aC 4 nE) (Zt (aC 5<|e2 Zx (Zb 4) pw) rest) [My d,My nr,My s,My dr,Yj,Yj,Yj,Yj,Yj] S=o:=λh=>(Zi<|Zq<|dD J hv).trans ((Zi<|Zq (d:=.int (way:Int))<|Zf J J<|(cg aaA).trans<|by rw[ew]).trans h);have fin:∀{n':Nat} {S':b3},B S<=n'->CN [My d,My nr,My s,My dr,Yj,Yj,Yj,Yj,Yj] S= .rt (.ref n') S'->CP [.ref d,.ref nr,.ref s,.ref dr] S= .ok (.ref n') S':=λhl h=>(jT h).trans<|Rv hl
 let S2:=S1++GA
 have K2:cM n0 S2 s dr cur fs:=K1.app GA;have D2:cW cs c d (ao+1) S2:=D1.app GA;have Aa7:∀a,a<B S->a≠d->S2[a]?=S[a]?:=λa h1 h2=>by show(S1++GA)[a]?=_;rw[Yk b5];exact nP.old a h1 h2
 have AeW:B S<=B S2:=by show _<=B (S1++GA);rw[Yd];omega
 cases hA:GR way fs with
 | true=>
  rw[hA]at cA;cases fs with
  |nil=>cases hA|cons f fs=>
   simp only[GR,gO,decide_eq_true_eq,Option.isNone_iff_eq_none]at hA;let⟨_,hw,hah⟩:=hA;have K3:=K2.C4 cur
   let S3:=S2.set f.e<|Fr.obj {f with ah:=O cur}
   have hm:f.e∈iU s (f::fs):=Yf _ Ye;have l3:B S3=B S2:=tQ ..
   let S4:=S3++[MO.L []]++[MO.L [.str fV,.ref<|B S3]]
   have g0:S4[B S3]?=O (.L []):=Zj (Zm _ _ _) _;have K4:cM n0 S4 s (B S3) [] ({f with ah:=O cur}::fs):=((K3.app _).app _).now g0 b5<|Lp K3.lt.1<|Yu _;have p1:vA kQ pS (aD iy oz) E S2= .nx E S3:=uf (d:=.Z)<|la (bR J<|vD K2.hc) (K2.top J) J<|ZvV<|K2.he f Ye;have r1:aM gr E S3= .rt (.ref<|B S3+1) S4:=b7 ((bM (M':=S3++[.L []]) (ds:=[.str fV,.ref<|B S3]) (Zo J<|Zo tw J) J).trans (by rw[Yd];rfl));refine⟨⟨fV,[],[]⟩,S4,B S3+1,B S3,[],_,ao+1,fin b5 ?_,⟨?_,K4,((D2.put (by have:=K2.lo.2.1 _ hm;exactλz=>by omega) (by have:=K2.lo.2.1 _ hm;exactλz=>by omega) _).app _).app _,ZtE,ZnA hw hah,?_,hlen,⟨g_ _,λg hg=>?_⟩,λa h1 h2 h3=>?_,?_⟩,b5⟩
   .unfold CN;exact h0<|iK<|(cO cA).trans<|(Zi p1).trans r1
   .have:=Zm (S3++[MO.L []]) (MO.L [.str fV,.ref<|B S3]) [];rwa[Yd]at this
   .intro g hg;rcases Yo.mp hg with e|e
    .rw[e];exact .inl hw
    .exact Lq g<|Yf _ e
   .rcases Yo.mp hg with e|e
    .rw[e];exact u0<|hb.2 f Ye
    .exact u0<|hb.2 g<|Yf _ e
   .show(S3++[MO.L []]++[MO.L [.str fV,.ref<|B S3]])[a]?=_;rw[ju,Yk b5];exact(Ys λ(z:f.e=a)=>h3<|z▸hm).trans (Aa7 a h1 h2)
   .show B S<=B (S3++[MO.L []]++[MO.L [.str fV,.ref<|B S3]]);rw[Yd,Yd];omega
 | false=>
  rw[hA]at cA;let⟨GB,cB⟩:=Zrn K2 (env:=E) (way:=way) (λ_=>rfl) λ_=>rfl
  let S3:=S2++GB
  have K3:cM n0 S3 s dr cur fs:=K2.app GB;have D3:cW cs c d (ao+1) S3:=D2.app GB;have Td:B S<=B S3:=by show _<=B (S2++GB);rw[Yd];omega
  have yn:∀a,a<B S->a≠d->S3[a]?=S[a]?:=λa h1 h2=>by show(S2++GB)[a]?=_;rw[Yk<|Y5 h1 AeW];exact Aa7 a h1 h2
  have Aa8:S3[nr]?=O (.L<|names.map D.str):=(yn nr (Yg.mp r9).1 nd).trans r9;cases hB:sF way fs with
  | true=>
   rw[hB]at cB;cases fs with
   |nil=>cases hB|cons f fs=>
    simp only[sF,gO,yS,decide_eq_true_eq]at hB;have hf:=Lq f Ye;have uk:f.done:=by
     rcases hB.2 with z|z
     .rcases hf with q|q
      .rw[z]at q;exact k9 q aaA
      .exact .inr q
     .let⟨a,ea⟩:=Ho.mp z;rcases hf with q|q
      .exact .inl ⟨q,a,ea⟩
      .rw[q.2]at ea;cases ea
    have xm:=hb.2 f Ye;have ce:=ZlD K3 uk b5
    let W:=(f.pf cur).whole
    let S4:=S3++[MO.L [W],MO.L<|f.out++[W]]
    have K4:=K3.app [MO.L [W],MO.L<|f.out++[W]];have g1:S4[B S3+1]?=O (.L<|f.out++[W]):=by show(S3++_)[_]?=_;rw[qK];rfl
    have K5:=K4.pop g1 b5<|Lp K3.lt.1<|tU _
    let S5:=S4.set s<|.L (fs.map λf=>D.ref f.e).reverse
    have l5:B S5=B S3+2:=by show(S4.set s _).length=_;rw[tQ];show(S3++_).length=_;rw[Yd];rfl
    let S6:=S5++[MO.L [.str iC,.ref<|B S3+1]]
    have GG:S4[s]?=O (.L<|(fs.map λf=>D.ref f.e).reverse++[D.ref f.e]):=by rw[K4.hs,Yw,yK]
    refine⟨⟨iC,[],[]⟩,S6,B S5,B S3+1,f.out++[W],fs,ao+1,fin b5 ?_,⟨Zm _ _ _,K5.app _,((D3.app _).put (by have:=K3.lo.2.1 s Ye;exactλz=>by omega) (by have:=K3.lo.2.1 s Ye;exactλz=>by omega) _).app _,ZrP,Znf uk b5,λg hg=>Lq g<|Yf _ hg,by rw[Yp]at hlen;omega,⟨by rw[Yd];exact pD xm,λg hg=>u0<|hb.2 g<|Yf _ hg⟩,λa h1 h2 h3=>?_,?_⟩,b5⟩
    .unfold CN;refine h0<|(Zi<|cZ cA).trans<|iK<|(cO cB).trans<|(Zi<|Zq<|Fy J J ce).trans<|(Zi<|uf<|Rj J GG).trans ?_;exact b7<|bM (Zo J yA) J
    .show(S5++_)[a]?=_;rw[Yk b5];refine(Ys λ(z:s=a)=>h3<|z▸Ye).trans ?_;show(S3++_)[a]?=_;rw[Yk<|Y5 h1 Td];exact yn a h1 h2
    .show B S<=B (S5++_);rw[Yd];omega
  | false=>
   rw[hB]at cB;by_cases hC:(5<=way/\way<8)/\fs.length<12
   .have ch:cN iS iq E S3= .ok (.bl true) S3:=by
     have c1:rZ pI eE qo (Zb 5) pV E S3= .ok (.bl true) S3:=by exact F9 J J (Jv b5) J (by rw[mq,j2 b5])
     rw[jV c1];exact Zf (bR J<|jU K3.hs) J (by rw[mq,j2 r0])
    let⟨b,eb,hb6⟩:=fC (v / 30) 6 aaA;have eb:v / 30 % 6=(b:Int):=eb;let⟨m,em,hm9⟩:=fC (v / 10) 9 aaA;have em:v / 10 % 9=(m:Int):=em;let⟨t,S4,GX,f1,f2,f3,f4,D4⟩:=Ru (M:=S3) (most:=1+m) (deep:=1+b) D3 Aa8 nd hn qV b5 (iG _ _) (iG _ _) b5;have K4:=K3.kp hd0.2 D4.kp;obtain⟨w,hw1,GH⟩:∃w:b9,[D.str jd,.str jd,.str qe][way-5]?=i5 w/\(w=jd\/w=qe):=by
     match way-5,(show way-5<3 by omega)with
     |0,_=>exact⟨jd,rfl,.inl J⟩|1,_=>exact⟨jd,rfl,.inl J⟩|2,_=>exact⟨qe,rfl,.inr J⟩
    let S5:=S4++[MO.L [.str jd,.str jd,.str qe]]
    have K5:cM n0 S5 s dr cur fs:=K4.app _;have AfY:B S3<=B S5:=Yi D4.kp.len<|len_app S4 _;have Zsa:=K5.push b5 w t
    let F:Fr:=⟨B S5,dr,w,t,cur,Yj⟩
    let S6:=(S5++[F.obj]).set s<|.L<|(fs.map λf=>D.ref f.e).reverse++[.ref<|B S5]
    have l6:B S6=B S5+1:=by show((S5++_).set s _).length=_;rw[tQ,Yd];rfl
    let S7:=S6++[MO.L []]
    have v5:gJ ⟨w,[],[t]⟩:=by
     rcases GH with rfl|rfl
     .exact Ln J aaA f1 b5 b5
     .exact Ln J aaA f1 b5 b5
    let S8:=S7++[MO.L [.str<|glue [32]<|Rw.words ⟨w,[],[t]⟩,.ref<|B S5+1]]
    have wbl:sO w=true:=by rcases GH with rfl|rfl <;>rfl
    refine⟨⟨w,[],[t]⟩,S8,B S7,B S5+1,[],F::fs,GX,fin (by show _<=B (S6++_);rw[Yd];omega) ?_,⟨Zm _ _ _,Zsa.app _,(((((D4.dk.app _).app _).put (by have:=K3.lo.2.1 s Ye;exactλz=>by omega) (by have:=K3.lo.2.1 s Ye;exactλz=>by omega) _).app _).app _),v5,Zry wbl hC.2,λg hg=>?_,by rw[Yp];omega,⟨g_ _,λg hg=>?_⟩,λa h1 h2 h3=>?_,?_⟩,by have:=D4.le;omega⟩
    .unfold CN;refine h0<|(Zi<|cZ cA).trans<|(Zi<|cZ cB).trans<|iK<|(cO ch).trans ?_;refine(Zi<|Zq (d:=.U t.flat) (M':=S4)<|Fz J J (c:=.int ((1+b:Nat):Int)) (Zf J r6 (by rw[oF,eb];congr 2)) (d:=.int ((1+m:Nat):Int)) (Zf J r6 (by rw[oF,em];congr 2)) f4).trans ?_;refine(Zi<|Zq (d:=.str w) (M':=S5)<|Zf (bM (ds:=[.str jd,.str jd,.str qe]) J J) (b:=.int ((way-5:Nat):Int)) (Zf J J (by rw[Jh];congr 2;exact tW b5 b5))<|dO (Zm _ _ _)<|by rwa[cP]).trans ?_;refine(Zi<|p_ (M':=S5) (M2:=S5++[F.obj]) (d:=.ref<|B S5) J K5.hs (bM (ds:=[.str w,.U t.flat,.ref dr,.Z]) J J) (Zj K5.hs _) (by simp only[H_,Ym];exact uY (show B fs<=12 by exact Ih hC.2) aaA)).trans ?_;refine b7 ((bM (M':=S7) (ds:=[.str<|glue [32]<|Rw.words ⟨w,[],[t]⟩,.ref<|B S5+1]) (Zo (dD (M1:=S6) (a:=.U<|Rw.n5 ⟨w,[],[t]⟩) (qL J J)<|F4 v5 S6)<|Zo ((bM J J).trans<|by rw[l6]) J) J))
    .rcases Yo.mp hg with e|e
     .rw[e];rcases GH with q|q
      .exact .inl q
      .exact .inr ⟨q,rfl⟩
     .exact Lq g e
    .rcases Yo.mp hg with e|e
     .rw[e];exact u0 hb.1
     .exact u0<|hb.2 g e
    .show(S7++_)[a]?=_;rw[Yk (by show a<B (S6++_);rw[Yd];omega)];show(S6++_)[a]?=_;rw[Yk b5];refine(Ys λ(z:s=a)=>h3<|z▸Ye).trans ?_;rw[Yk b5];show(S4++_)[a]?=_;rw[Yk (by have:=D4.kp.len;omega)];exact(D4.kp.old a (Y5 h1 Td) h2).trans (yn a h1 h2)
    .show B S<=B (S7++_);rw[Yd];show B S<=B (S6++_)+_;rw[Yd];omega
   .have ch:∃G,cN iS iq E S3= .ok (.bl false) (S3++G):=by
     refine⟨[],?_⟩;rw[iD];by_cases q1:5<=way
     .by_cases q2:way<8
      .have c1:rZ pI eE qo (Zb 5) pV E S3= .ok (.bl true) S3:=by
        exact F9 J J (Jv b5) J (by rw[mq,j2 b5])
       rw[jV c1];exact Zf (bR J<|jU K3.hs) J (by rw[mq,j3 r0])
      .have c1:rZ pI eE qo (Zb 5) pV E S3= .ok (.bl false) S3:=by
        exact F9 J J (Jv b5) J (by rw[mq,j3<|by exactλz=>by omega])
       exact pN c1
     .have c1:rZ pI eE qo (Zb 5) pV E S3= .ok (.bl false) S3:=by
       exact ZuB J J (AeB λz=>by omega)
      exact pN c1
    let⟨GC,ch⟩:=ch
    let S3':=S3++GC
    let⟨r,S4,GX,v5,rpl,f4,D4⟩:=Zt1 (M:=S3') (D3.app _) (Zj Aa8 _) nd hn qV b5<|v / 10;have K4:=(K3.app GC).kp hd0.2 D4.kp;have AfZ:B S3<=B S4:=Yi (len_app S3 GC) D4.kp.len
    let S5:=S4++[MO.L [.U r.n5]]++[MO.L<|cur++[.U r.n5]]
    have g5:S5[B S4+1]?=O (.L<|cur++[.U r.n5]):=by have:=Zm (S4++[MO.L [.U r.n5]]) (MO.L<|cur++[.U r.n5]) [];rwa[Yd]at this
    have K5:cM n0 S5 s (B S4+1) (cur++[.U r.n5]) fs:=((K4.app _).app _).now g5 b5<|Lp K4.lt.1<|tU _
    let S6:=S5++[MO.L [.str<|glue [32] r.words,.ref<|B S4+1]]
    have hbc:=hb.1;have l5:B S5=B S4+2:=by show(S4++_++_).length=_;rw[Yd,Yd];rfl
    refine⟨r,S6,B S5,B S4+1,cur++[.U r.n5],fs,GX,fin b5 ?_,⟨Zm _ _ _,K5.app _,((D4.dk.app _).app _).app _,v5,Zn5 rpl b5,Lq,hlen,⟨by rw[Yd];exact pD hbc,λg hg=>u0<|hb.2 g hg⟩,λa h1 h2 h3=>?_,?_⟩,by have:=D4.le;omega⟩
    .unfold CN;refine h0<|(Zi<|cZ cA).trans<|(Zi<|cZ cB).trans<|(Zi<|cZ ch).trans ?_;refine(Zi<|Zq (d:=.U r.n5) (M':=S4)<|W3 J J vE f4).trans ?_;refine b7 (bM (M':=S5) (Zo (dD J<|F4 v5 S4)<|Zo ((Zf J (bM yA J)<|mH (Zj K4.hc _) (Zm _ _ _) r0).trans (by rw[Yd];rfl)) J) J)
    .show(S5++_)[a]?=_;rw[Yk b5];show(S4++_++_)[a]?=_;rw[ju,Yk b5];refine(D4.kp.old a (by show a<B (S3++GC);rw[Yd];omega) h2).trans ?_;show(S3++GC)[a]?=_;rw[Yk<|Y5 h1 Td];exact yn a h1 h2
    .show B S<=B (S5++_);rw[Yd];omega
end
def uG:Nat->List Fr->List Fr
 |_,[]=>[]|n,f::L=>{f with e:=n}::uG (n+1) L
def Fr.strip(f:Fr):b9×Sm×c9×Option c9:=(f.w,f.t,f.out,f.ah)
theorem ZrI:∀(n:Nat) (L:List Fr),(uG n L).map (·.e)=tR n L.length
 |_,[]=>rfl|n,_::L=>by rw[uG,Yw,ZrI (n+1) L,Yp,Lm]
theorem Zln:∀(n:Nat) (L:List Fr),(uG n L).map Fr.strip=L.map Fr.strip
 |_,[]=>rfl|n,_::L=>by rw[uG,Yw,Zln (n+1) L];rfl
theorem Zp0:∀(n:Nat) (L:List Fr),∀g∈uG n L,∃f∈L,∃j,L[j]?=O f/\g={f with e:=n+j}
 |_,[],_,h=>nomatch h|n,f::L,g,h=>by
  rcases Yo.mp h with e|e
  .exact⟨f,Ye,0,rfl,e⟩
  .let⟨f',h1,j,h2,h3⟩:=Zp0 (n+1) L g e;exact⟨f',Yf _ h1,j+1,h2,by rw[h3,u5,l_ 1 j]⟩
theorem ZjJ:∀(fs gs:List Fr) (cur:c9),fs.map Fr.strip=gs.map Fr.strip->iV cur fs=iV cur gs
 |[],[],_,_=>rfl|[],_::_,_,h=>nomatch h|_::_,[],_,h=>nomatch h|f::fs,g::gs,cur,h=>by have h1:f.strip=g.strip:=(lu h).1;have h2:=(lu h).2;simp only[Fr.strip,VP]at h1;show f.pf cur::iV f.out fs=g.pf cur::iV g.out gs;rw[ZjJ fs gs f.out h2,h1.2.2.1];simp only[Fr.pf,h1.1,h1.2.1,h1.2.2.2]
def ZlB{S:b3}{it:ir}(hit:∀G,locked it (S++G)=true):∀(L:List Fr) (acc:c9) (G:b3) (a0 a1 a2 a3 a4 a5 a6 a7 a8 a9 a10 a11 x:Option D),(∀f∈L,S[f.e]?=O f.obj)->B acc+B L<=100 ->
  jR it (cV 12) [] (aD wZ ot) (B S) (L.map λf=>D.ref f.e) [a0,a1,a2,a3,a4,a5,a6,a7,a8,a9,a10,a11,x] (S++ .L acc::G)= .ok (.ref<|B S) (S++ .L (acc++(uG (B S+1+B G) L).map λf=>D.ref f.e)::(G++L.map Fr.obj))
 |[],acc,G,a0,a1,a2,a3,a4,a5,a6,a7,a8,a9,a10,a11,x,_,_=>by rw[uX,WY,c_<|hit _];simp[uG]|f::L,acc,G,a0,a1,a2,a3,a4,a5,a6,a7,a8,a9,a10,a11,x,hL,hl=>by
  rw[Yp]at hl
  let T:=S++ .L acc::G
  have Zpu:B T=B S+1+B G:=by simp[T];exact fY b5 b5
  have ih:=ZlB hit L (acc++[.ref<|B T]) (G++[f.obj]) a0 a1 a2 a3 a4 a5 a6 a7 a8 a9 a10 a11 (My f.e) (λg hg=>hL g<|Yf _ hg) r0;have hb:aD wZ ot [a0,a1,a2,a3,a4,a5,a6,a7,a8,a9,a10,a11,My f.e] T= .ok (.ref<|B T) (T++[f.obj]):=by refine bR J ?_;show(match T[f.e]? with|some (.L x)=>alloc (.L x) T|_=>.bad)=_;rw[show T[f.e]?=O f.obj from Zj (hL f Ye) _];rfl
  have gt:(T++[f.obj])[B S]?=O (.L acc):=Zj (Zm _ _ _) _;have lt:B acc<SZ:=uY (show B acc<=100 by omega) aaA;have st:(T++[f.obj]).set (B S) (.L<|acc++[.ref<|B T])=S++ .L (acc++[.ref<|B T])::(G++[f.obj]):=by simp[T]
  rw[Yw,Qd,c_<|hit _];simp only[cV,qx,qy,Js,R3.bind,if_true];rw[show S++ .L acc::G=T from rfl,hb];simp only[gt,lt,if_true,st];rw[ih];simp[uG,Zpu,u5]
structure Kept(n0:Nat)(S S':b3)(s k dr:Nat)(cur:c9)(fs gs:List Fr):Prop where
 iI:cM n0 S' k dr cur gs
 st:gs.map Fr.strip=fs.map Fr.strip
 hi:∀a∈iU k gs,B S<=a
 pre:S<+:S'
 oo:∀g∈gs,∀a∈iU s fs,a≠g.o
variable{dr:Nat}{a7:Option D}
def Zum{n0:Nat}{fs:List Fr}(K:cM n0 S s dr cur fs)(hn:n0<=B S)(hl:B fs<=12){a0 a1 a2 a3 a4 a6 a8 a9 a10 a11:Option D}:
  ∃S' gs,gU (eG<|Zb 5) 1 (cV 12) [] (aD wZ ot) [a0,a1,a2,a3,a4,My s,a6,a7,a8,a9,a10,a11] S= .ok (.ref<|B S) S'/\Kept n0 S S' s (B S) dr cur fs gs:=by
 have F6:(fs.map λf=>D.ref f.e).reverse=fs.reverse.map λf=>D.ref f.e:=Ia.symm;have hs:S[s]?=O (.L<|fs.reverse.map λf=>D.ref f.e):=by rw[<-F6];exact K.hs
 have lp:=ZlB (S:=S) (it:=⟨fs.reverse.map λf=>D.ref f.e,O s⟩) (λG=>j2<|Zj hs G) fs.reverse [] [] a0 a1 a2 a3 a4 (My s) a6 a7 a8 a9 a10 a11 Yj (λf hf=>K.he f<|UV.mp hf) r0;rw[jw,jw,Er,Od]at lp
 let m:=B S+1
 let S':=S++ .L ((uG m fs.reverse).map λf=>D.ref f.e)::fs.reverse.map Fr.obj
 let gs:=(uG m fs.reverse).reverse
 have old:∀a,a<B S->S'[a]?=S[a]?:=λa h=>Yk h;have mem:∀g∈gs,∃f∈fs,∃j,fs.reverse[j]?=O f/\g={f with e:=m+j}:=λg hg=>by let⟨f,h1,j,h2,h3⟩:=Zp0 m fs.reverse g<|UV.mp hg;exact⟨f,UV.mp h1,j,h2,h3⟩
 have hi:∀a∈iU (B S) gs,B S<=a:=λa ha=>by
  rcases Yo.mp ha with e|e
  .exact lR e.symm
  .let⟨g,hg,rfl⟩:=kZ.mp e;let⟨f,_,j,_,rfl⟩:=mem g hg;show B S<=m+j;omega
 have lt:=K.lt;refine⟨S',gs,?_,⟨?_,λg hg=>?_,λg hg=>?_,?_,?_,λa ha=>⟨?_,λg hg=>?_⟩,K.lo.1,λa ha=>Yi hn<|hi a ha,λg hg=>?_⟩,?_,hi,Y1 _ _,λg hg a ha=>?_⟩
 .have hi0:eG (Zb 5) [a0,a1,a2,a3,a4,My s,a6,a7,a8,a9,a10,a11] S= .ok ⟨fs.reverse.map λf=>D.ref f.e,O s⟩ S:=by
   show(R3.ok (D.ref s) S).bind _=_;simp only[R3.bind,hs]
  rwa[W2 hi0]
 .refine(Zm S _ _).trans ?_;rw[Ia,KO]
 .let⟨f,_,j,h2,rfl⟩:=mem g hg;show(S++_)[B S+1+j]?=O f.obj;rw[u5,qK,l_ 1 j,Nv,jg,h2];rfl
 .let⟨f,hf,j,_,rfl⟩:=mem g hg;exact(old f.o<|lt.2.2 f hf).trans (K.ho f hf)
 .exact(old dr lt.2.1).trans K.hc
 .refine lO.mpr ⟨λz=>?_,?_⟩
  .let⟨g,hg,e⟩:=kZ.mp z;let⟨f,_,j,_,rfl⟩:=mem g hg;have e:m+j=B S:=e;have:m=B S+1:=rfl;omega
  .rw[Ia,ZrI];exact(List.reverse_perm _).nodup_iff.mpr List.nodup_range'
 .have:=hi a ha;have:=lt.2.1;omega
 .let⟨f,hf,j,_,rfl⟩:=mem g hg;have:=hi a ha;have:=lt.2.2 f hf;show a≠f.o;omega
 .let⟨f,hf,j,_,rfl⟩:=mem g hg;exact K.lo.2.2 f hf
 .rw[Ia,Zln,Ia,KO]
 .let⟨f,hf,j,_,rfl⟩:=mem g hg;exact(K.dj a ha).2 f hf
abbrev GI:S3:=(Zt gf bb)
abbrev GL:S3:=(Zt aS cm)
abbrev cH(rs:List Rw):d6:=rs.map λr=>glue [32] r.words
def gl(T:d6):Nat:=(T.map λt=>B t+1).sum
def Lr(T:d6)(t:b9):gl (T++[t])=gl T+(B t+1):=by simp[gl]
theorem GN:∀(rs:List Rw) (r:Rw) (x y z:List Pf),lF rs x=O y->mJ r y=O z->lF (rs++[r]) x=O z
 |[],r,x,y,z,h,k=>by cases h;show(mJ r x).bind _=_;rw[k];rfl|q::rs,r,x,y,z,h,k=>by
  show(mJ q x).bind (lF<|rs++[r])=_;have h:(mJ q x).bind (lF rs)=O y:=h;cases e:mJ q x with
  |none=>rw[e]at h;cases h|some w=>rw[e]at h;exact GN rs r w y z h k
abbrev iPf:List Pf:=[⟨lG,[],[],[]⟩]
structure jq(cs:List Int)(c d:Nat)(M S:b3)(s dr:Nat)(cur:c9)(fs:List Fr)(rs:List Rw)(ao k:Nat):Prop where
 iI:cM (B M+1) S s dr cur fs
 dk:cW cs c d ao S
 kp:Kp d M S
 rw:S[B M]?=O (.L<|(cH rs).map D.str)
 ok:∀r∈rs,gJ r
 DX:lF rs iPf=O (iV cur fs)
 fr:∀f∈fs,f.ok
 le:B fs<=12
 bd:B cur<=k/\∀f∈fs,B f.out<=k
 ld:c<B M/\d<M.length
def jq.n0{fs:List Fr}{ao k:Nat}(P:jq cs c d M S s dr cur fs rs ao k):B M+1<=B S:=(Yg.mp P.rw).1
def GO(h:S<+:S')(ha:a<B S):S'[a]?=S[a]?:=by let⟨G,rfl⟩:=h;exact Yk ha
def Zsv{fs gs:List Fr}(h:gs.map Fr.strip=fs.map Fr.strip){k:Nat}(ok:∀f∈fs,f.ok)(bd:∀f∈fs,B f.out<=k):(∀g∈gs,g.ok)/\∀g∈gs,B g.out<=k:=by
 have key:∀g∈gs,∃f∈fs,f.strip=g.strip:=λg hg=>by
  have:g.strip∈fs.map Fr.strip:=by rw[<-h];exact tM hg
  let⟨f,hf,e⟩:=kZ.mp this;exact⟨f,hf,e⟩
 refine⟨λg hg=>?_,λg hg=>?_⟩
 .let⟨f,hf,e⟩:=key g hg;simp only[Fr.strip,VP]at e;have:=ok f hf;unfold Fr.ok at this |-;rwa[<-e.1,<-e.2.2.2]
 .let⟨f,hf,e⟩:=key g hg;simp only[Fr.strip,VP]at e;rw[<-e.2.2.1];exact bd f hf
section
variable {cs:List Int} {c d:Nat} {M S:b3} {s dr:Nat} {cur:c9} {fs:List Fr} {rs:List Rw} {ao k:Nat}
def jq.mono(P:jq cs c d M S s dr cur fs rs ao k){k':Nat}(h:k<=k'):jq cs c d M S s dr cur fs rs ao k':=⟨P.iI,P.dk,P.kp,P.rw,P.ok,P.DX,P.fr,P.le,⟨Yi P.bd.1 h,λf hf=>Yi (P.bd.2 f hf) h⟩,P.ld⟩
def ZtW(P:jq cs c d M S s dr cur fs rs ao k)(r9:M[nr]?=O (.L<|names.map D.str))(nd:nr≠d)(hn:B names=12)(qV:∀x∈names,b_ x)(hk:k<900)(ha:ao+200<1000000)(hr:B rs<10000)(hg:gl (cH rs)<=3401)(v2 a8 a9 a10 a11:Option D):
  (∃S' s' rL at' y9 sQ w4,GI [My d,My nr,v2,c8 2400,My<|B M,My s,My dr,c8 (gl (cH rs):Int),a8,a9,a10,a11] S= .bk [My d,My nr,v2,c8 2400,My<|B M,My s',My dr,c8 (gl (cH rs):Int),a8,y9,sQ,w4] S'/\jq cs c d M S' s' dr cur rL rs at' k/\at'<=ao+121)\/
  (∃r S' cj n9 rL at' y9 sQ w4,GI [My d,My nr,v2,c8 2400,My<|B M,My s,My dr,c8 (gl (cH rs):Int),a8,a9,a10,a11] S= .nx [My d,My nr,v2,c8 2400,My<|B M,My s,My cj,O<|.int (gl (cH<|rs++[r]):Int),a8,y9,sQ,w4] S'/\jq cs c d M S' s cj n9 rL (rs++[r]) at' (k+1)/\at'<=ao+121/\gl (cH<|rs++[r])<=3401):=by
 have n0:=P.n0;have ld:=P.ld;let⟨S1,gs,ym,KE⟩:=Zum P.iI n0 P.le (a0:=My d) (a1:=My nr) (a2:=v2) (a3:=c8 2400) (a4:=My<|B M) (a6:=My dr) (a7:=c8 (gl (cH rs):Int)) (a8:=a8) (a9:=a9) (a10:=a10) (a11:=a11);let⟨G,GS⟩:=KE.pre;have K1:cM (B M+1) S1 s dr cur fs:=by rw[<-GS];exact P.iI.app G
 have D1:cW cs c d ao S1:=by rw[<-GS];exact P.dk.app G
 have AeX:B S<=B S1:=by rw[<-GS];exact len_app S G
 have AeY:S1[nr]?=O (.L<|names.map D.str):=(GO KE.pre<|Y5 (Yg.mp r9).1 P.kp.len).trans<|P.kp.get r9 nd;let⟨r,S2,n',cj,n9,rL,at',GU,l9,ze⟩:=ZxW K1 D1 AeY nd hn qV ⟨b5,b5⟩ (Yi n0 AeX) P.fr P.le P.bd hk ha;have gH:S2[B M]?=O (.L<|(cH rs).map D.str):=by rw[l9.old (B M) b5 (λz=>by omega) (λz=>by have:=K1.lo.2.1 _ z;omega),GO KE.pre b5];exact P.rw
 have Rx:Kp d M S2:=⟨by have:=l9.len;omega,λj h1 h2=>by rw[l9.old j b5 h2 (λz=>by have:=K1.lo.2.1 _ z;omega),GO KE.pre b5];exact P.kp.old j h1 h2⟩;have AeZ:=(F2 l9.ok).le
 let u:Int:=(gl (cH rs):Int)
 let T:=glue [32] r.words
 let E:bO:=[My d,My nr,v2,c8 2400,My<|B M,My s,My dr,c8 u,a8,My<|B S,i5 T,My cj]
 have a1:xr (aJ CP gX) [10,11] [My d,My nr,v2,c8 2400,My<|B M,My s,My dr,c8 u,a8,My<|B S,a10,a11] S1= .nx E S2:=by unfold xr;rw[Fz J J J J GU];simp only[l9.out];rfl
 let E2:bO:=[My d,My nr,v2,c8 2400,My<|B M,My s,My cj,c8 u,a8,My<|B S,i5 T,My cj]
 have Aa9:∀{X:bO},Zb 10 X S2= .ok (.str T) S2->aD aV oq X S2= .ok (.int (B T:Int)) S2:=λh=>bR h (by simp only[Bx,BJ,BK,t_,c_ (show B T<=SZ from Yi AeZ aaA)]);have c1:e2 dW ki (Zb 3) E S2= .ok (.bl<|decide<|(2400:Int)<u+(B T:Int)) S2:=Zf (Zf J (Aa9 J) J) J (by rw[j6]);by_cases hbk:(2400:Int)<u+(B T:Int)
 .rw[j2 hbk]at c1;refine .inl ⟨S2,B S,gs,at',My<|B S,i5 T,My cj,(Zi<|Zq ym).trans<|(Zi a1).trans<|?_,?_,ze⟩
  .unfold Zt;rw[cO c1];rfl
  .have q:=Zsv KE.st P.fr P.bd.2;have KK:=KE.iI;have nm:∀a,a<B S1->a≠d->a∉iU s fs->S2[a]?=S1[a]?:=l9.old;have Ry:=KK.lt;have lts:=P.iI.lt;refine⟨⟨?_,λf hf=>?_,λf hf=>?_,?_,KK.nd,KK.dj,KK.lo⟩,l9.dk,Rx,gH,P.ok,by rw[P.DX,ZjJ gs fs cur KE.st],q.1,by have:=congrArg yN KE.st;rw[Ym,Ym]at this;have:=P.le;omega,⟨P.bd.1,q.2⟩,ld⟩
   .have h:=KE.hi _<|Ye (a:=B S);rw[nm (B S) (Ry.1 _ Ye) (λz=>by omega) (λz=>by have:=lts.1 _ z;omega)];exact KK.hs
   .have hm:f.e∈iU (B S) gs:=Yf _<|tM hf;have h:=KE.hi _ hm;rw[nm f.e (Ry.1 _ hm) (λz=>by omega) (λz=>by have:=lts.1 _ z;omega)];exact KK.he f hf
   .have h:=KK.lo.2.2 f hf;have DE:f.o∉iU s fs:=λz=>KE.oo f hf _ z J;rw[nm f.o (Ry.2.2 f hf) (λz=>by omega) DE];exact KK.ho f hf
   .have h:=KK.lo.1;rw[nm dr Ry.2.1 (λz=>by omega) λz=>(P.iI.dj dr z).1 J];exact KK.hc
 .rw[j3 hbk]at c1;have hu:u=(gl (cH rs):Int):=rfl;have eg:gl (cH<|rs++[r])=gl (cH rs)+(B T+1):=by rw[cH,fX];exact Lr _ _
  let S3:=S2.set (B M)<|.L<|(cH<|rs++[r]).map D.str
  have hz:B ((cH rs).map D.str)<SZ:=by rw[Ym,Ym];exact mX hr aaA
  have a3:=p_ (env:=[My d,My nr,v2,c8 2400,My<|B M,My s,My cj,O<|.int (gl (cH<|rs++[r]):Int),a8,My<|B S,i5 T,My cj]) (M:=S2) (M':=S2) (M2:=S2) (o:=Zb 4) (t:=Zb 10) (d:=.str T) J gH J gH hz;have e3:(cH rs).map D.str++[D.str T]=(cH<|rs++[r]).map D.str:=by simp[cH,T]
  rw[e3]at a3;refine .inr ⟨r,S3,cj,n9,rL,at',My<|B S,i5 T,My cj,(Zi<|Zq ym).trans ((Zi a1).trans<|(Zi<|cZ c1).trans<|(Zi<|Zq (d:=.ref cj) (env':=E2) J J).trans<|(Zi<|Zq (d:=.int (gl (cH<|rs++[r]):Int)) (Zf (Zf J (Aa9 J) J) J (by rw[oF];congr 2;exact tW b5 b5)) J).trans a3),?_,ze,b5⟩;have Pu:∀a,B M+1<=a->a<B S2->S3[a]?=S2[a]?:=λa h _=>Ys (λz=>by omega);exact⟨l9.iI.frame Pu,l9.dk.put (by exactλz=>by omega) b5 _,Rx.put (Yu _) _,Y4 (Yg.mp gH).1,λq hq=>by
   rcases gF.mp hq with z|z
   .exact P.ok q z
   .rw[Yx.mp z];exact l9.ok,GN _ _ _ _ _ P.DX l9.st,l9.fr,l9.le,l9.bd,ld⟩
end
section
variable {cs:List Int} {c d:Nat} {M:b3}
def Zpq{nr:Nat}{names:d6}(r9:M[nr]?=O (.L<|names.map D.str))(nd:nr≠d)(hn:B names=12)(qV:∀x∈names,b_ x){it:ir}(hi:it.lock=Yj){v2:Option D}:
  ∀(xs:c9) (S:b3) (s dr:Nat) (cur:c9) (fs:List Fr) (rs:List Rw) (ao k:Nat) (a8 a9 a10 a11:Option D),jq cs c d M S s dr cur fs rs ao k->k+B xs<=400->B rs<=k->ao+121*B xs<900000->gl (cH rs)<=3401 ->
  ∃(S':b3) (s' cj:Nat) (n9:c9) (rL:List Fr) (vc:List Rw) (at':Nat) (y7 y8 y9 sQ w4:Option D),iz it (cV 8) GI xs [My d,My nr,v2,c8 2400,My<|B M,My s,My dr,c8 (gl (cH rs):Int),a8,a9,a10,a11] S= .nx [My d,My nr,v2,c8 2400,My<|B M,My s',My cj,y7,y8,y9,sQ,w4] S'/\jq cs c d M S' s' cj n9 rL vc at' 400/\vc.length<=400/\gl (cH vc)<=3401/\at'<=ao+121*xs.length
 |[],S,s,dr,cur,fs,rs,ao,k,a8,a9,a10,a11,P,h1,h2,h3,h4=>⟨S,s,dr,cur,fs,rs,ao,_,_,_,_,_,by rw[w6,c_ (by unfold locked;rw[hi])],P.mono (by simpa using h1),Yi h2 (by simpa using h1),h4,iG _ _⟩|x::xs,S,s,dr,cur,fs,rs,ao,k,a8,a9,a10,a11,P,h1,h2,h3,h4=>by
  rw[Yp]at h1 h3;rcases ZtW P r9 nd hn qV b5 b5 b5 h4 v2 (O x) a9 a10 a11 with⟨S',s',rL,at',y9,sQ,w4,hb,P',ze⟩|⟨r,S',cj,n9,rL,at',y9,sQ,w4,hb,P',ze,hg⟩
  .refine⟨S',s',dr,cur,rL,rs,at',c8 (gl (cH rs):Int),O x,y9,sQ,w4,?_,P'.mono b5,b5,h4,by rw[Yp];omega⟩;rw[rK,c_ (by unfold locked;rw[hi])];simp only[cV,qx,qy];rw[hb]
  .let⟨S2,s2,dr2,DY,fs2,GV,at2,z7,z8,z9,GW,z11,hl,P2,q1,q2,q3⟩:=Zpq r9 nd hn qV hi xs S' s cj n9 rL (rs++[r]) at' (k+1) (O x) y9 sQ w4 P' b5 (by rw[Yd];exact pD h2) b5 hg;refine⟨S2,s2,dr2,DY,fs2,GV,at2,z7,z8,z9,GW,z11,?_,P2,q1,q2,by rw[Yp];omega⟩;rw[rK,c_ (by unfold locked;rw[hi])];simp only[cV,qx,qy];rwa[hb]
def jq.app{fs:List Fr}{ao k:Nat}(P:jq cs c d M S s dr cur fs rs ao k)(G:b3):jq cs c d M (S++G) s dr cur fs rs ao k:=⟨P.iI.app G,P.dk.app G,P.kp.trans<|Kp.app d S G,Zj P.rw G,P.ok,P.DX,P.fr,P.le,P.bd,P.ld⟩
def jq.row{fs rL:List Fr}{ao k k':Nat}(P:jq cs c d M S s dr cur fs rs ao k){S1:b3}{cj:Nat}(K:cM (B M+1) S1 s cj n9 rL)(D1:cW cs c d ao S1)(kp:Kp d M S1)(hw:S1[B M]?=O (.L<|(cH rs).map D.str))(ok:gJ r)(st:mJ r (iV cur fs)=O (iV n9 rL))(fr:∀f∈rL,f.ok)(le:B rL<=12)(bd:B n9<=k'/\∀f∈rL,B f.out<=k'):
  jq cs c d M (S1.set (B M)<|.L<|(cH<|rs++[r]).map D.str) s cj n9 rL (rs++[r]) ao k':=
 ⟨K.frame λa h _=>Ys (λz=>by omega),D1.put (by have:=P.ld;exactλz=>by omega) (by have:=P.ld;exactλz=>by omega) _,kp.put (Yu _) _,Y4 (Yg.mp hw).1,λq hq=>by
  rcases gF.mp hq with z|z
  .exact P.ok q z
  .rwa[Yx.mp z],GN _ _ _ _ _ P.DX st,fr,le,bd,P.ld⟩
def Zm1{t:b9}{e:E3}(hv:Zb 4 env S= .ok (.ref<|B M) S)(he:e env S= .ok (.str t) S)(ht:t=glue [32] r.words)(hw:S[B M]?=O (.L<|(cH rs).map D.str))(hl:B rs<=1000):
  bC (aU bK cD (Zb 4)<|Za e Ze) env S= .nx env (S.set (B M)<|.L<|(cH<|rs++[r]).map D.str):=by
 refine(p_ hv hw he hw (by rw[Ym,Ym];exact uY hl aaA)).trans ?_;rw[show(cH rs).map D.str++[D.str t]=(cH<|rs++[r]).map D.str by simp[cH,ht]]
def ZrF{f:Fr}{fs:List Fr}{ao k:Nat}(P:jq cs c d M S s dr cur (f::fs) rs ao k)(hd:f.done)(hk:k<=900)(hr:B rs<=1000)(v0 v1 v2 v3 a7 a8 a9 a10 a11:Option D):
  ∃(S':b3) (cj:Nat) (n9:c9),Zt jS eo [v0,v1,v2,v3,My<|B M,My s,My dr,a7,a8,a9,a10,a11] S= .nx [v0,v1,v2,v3,My<|B M,My s,My cj,a7,a8,a9,a10,a11] S'/\jq cs c d M S' s cj n9 fs (rs++[⟨iC,[],[]⟩]) ao (k+1):=by
 have n0:=P.n0;have xm:=P.bd.2 f Ye;have ce:=ZlD P.iI hd b5
 let W:=(f.pf cur).whole
 let S4:=S++[MO.L [W],MO.L<|f.out++[W]]
 have K4:=P.iI.app [MO.L [W],MO.L<|f.out++[W]];have g1:S4[B S+1]?=O (.L<|f.out++[W]):=by show(S++_)[_]?=_;rw[qK];rfl
 have K5:=K4.pop g1 b5<|Lp P.iI.lt.1<|tU _
 let S5:=S4.set s<|.L (fs.map λf=>D.ref f.e).reverse
 have GG:S4[s]?=O (.L<|(fs.map λf=>D.ref f.e).reverse++[D.ref f.e]):=by rw[K4.hs,Yw,yK]
 have hs0:=P.iI.lo.2.1 s Ye;have ld:=P.ld;have hw5:S5[B M]?=O (.L<|(cH rs).map D.str):=(Ys λz=>by omega).trans<|Zj P.rw _;have P2:=P.row (r:=⟨iC,[],[]⟩) (k':=k+1) K5 ((P.dk.app _).put (by exactλz=>by omega) b5 _) ((P.kp.trans<|Kp.app d S _).put b5 _) hw5 ZrP (Znf hd b5) (λg hg=>P.fr g<|Yf _ hg) (by have:=P.le;rw[Yp]at this;omega) ⟨by rw[Yd];exact pD xm,λg hg=>u0<|P.bd.2 g<|Yf _ hg⟩;refine⟨_,B S+1,f.out++[W],(Zi<|Zq<|Fy J J ce).trans<|(Zi<|uf<|Rj J GG).trans ?_,P2⟩;exact Zm1 (r:=⟨iC,[],[]⟩) J J J hw5 hr
def Zuk{f:Fr}{fs:List Fr}{ao k:Nat}(P:jq cs c d M S s dr cur (f::fs) rs ao k)(hk:k<=800)(hr:B rs<=900)(v0 v1 v2 v3 a7 a8 a9 a10 a11:Option D):
  ∃(S':b3) (cj:Nat) (n9:c9) (vc:List Rw),GL [v0,v1,v2,v3,My<|B M,My s,My dr,a7,a8,a9,a10,a11] S= .nx [v0,v1,v2,v3,My<|B M,My s,My cj,a7,a8,a9,a10,a11] S'/\jq cs c d M S' s cj n9 fs vc ao (k+1)/\vc.length<=B rs+2/\gl (cH vc)<=gl (cH rs)+9:=by
 have K:=P.iI;have n0:=P.n0;have ld:=P.ld;have gE:∀q:List Rw,gl (cH<|q++[⟨iC,[],[]⟩])=gl (cH q)+4:=λq=>by rw[cH,fX];exact Lr _ _
 have ZsH:∀q:List Rw,gl (cH<|q++[⟨fV,[],[]⟩])=gl (cH q)+5:=λq=>by rw[cH,fX];exact Lr _ _
 let E:bO:=[v0,v1,v2,v3,My<|B M,My s,My dr,a7,a8,a9,a10,a11]
 by_cases hc:f.w=jd/\f.ah=Yj
 .have c1:cN dQ fi E S= .ok (.bl true) S:=by
   rw[jV (M1:=S)<|Zf (K.t5 J) J<|jC.trans<|by rw[j2 hc.1]];exact Zf (K.Ms J) J ((F7 f.ah S).trans (by rw[hc.2];rfl))
  have K3:=K.C4 cur
  let S3:=S.set f.e<|Fr.obj {f with ah:=O cur}
  have l3:B S3=B S:=tQ ..;have hm:f.e∈iU s (f::fs):=Yf _ Ye;have hlo:=K.lo.2.1 _ hm
  let S4:=S3++[MO.L []]
  have K4:cM (B M+1) S4 s (B S3) [] ({f with ah:=O cur}::fs):=(K3.app _).now (Zm _ _ _) b5<|Lp K3.lt.1<|Yu _;have p1:vA kR pS nL E S= .nx E S3:=uf (d:=.Z)<|la (bR J<|vD K.hc) (K.top J) J<|ZvV<|K.he f Ye;have hw4:S4[B M]?=O (.L<|(cH rs).map D.str):=Zj ((Ys λz=>by omega).trans P.rw) _;have P2:=P.row (r:=⟨fV,[],[]⟩) (k':=k) K4 ((P.dk.put (by exactλz=>by omega) b5 _).app _) ((P.kp.put b5 _).trans<|Kp.app d _ _) hw4 ZtE (ZnA hc.1 hc.2) (λg hg=>by
   rcases Yo.mp hg with e|e
   .rw[e];exact .inl hc.1
   .exact P.fr g<|Yf _ e) P.le ⟨g_ _,λg hg=>by
   rcases Yo.mp hg with e|e
   .rw[e];exact P.bd.2 f Ye
   .exact P.bd.2 g<|Yf _ e⟩
  let⟨S',cj,n9,h2,P3⟩:=ZrF P2 (.inl ⟨hc.1,cur,rfl⟩) b5 (by rw[Yd];exact pD<|Yi hr aaA) v0 v1 v2 v3 a7 a8 a9 a10 a11;refine⟨S',cj,n9,_,?_,P3,i9,by rw[gE,ZsH];omega⟩;refine(Zi<|(cO c1).trans<|(Zi p1).trans<|(Zi<|Zq (d:=.ref<|B S3) (M':=S4) (env':=[v0,v1,v2,v3,My<|B M,My s,My<|B S3,a7,a8,a9,a10,a11]) tw J).trans<|Zm1 (r:=⟨fV,[],[]⟩) J J J hw4 b5).trans h2
 .have c1:cN dQ fi E S= .ok (.bl false) S:=by
   by_cases q:f.w=jd
   .rw[jV (M1:=S)<|Zf (K.t5 J) J<|jC.trans<|by rw[j2 q]];refine Zf (K.Ms J) J<|(F7 f.ah S).trans ?_;cases e:f.ah with
    |none=>exact k9 ⟨q,e⟩ hc|some _=>rfl
   .exact pN (Zf (K.t5 J) J<|jC.trans<|by rw[j3 q])
  have uk:f.done:=by
   rcases P.fr f Ye with q|q
   .cases e:f.ah with
    |none=>exact k9 ⟨q,e⟩ hc|some a=>exact .inl ⟨q,a,e⟩
   .exact .inr q
  let⟨S',cj,n9,h2,P3⟩:=ZrF P uk b5 b5 v0 v1 v2 v3 a7 a8 a9 a10 a11;exact⟨S',cj,n9,_,(Zi<|cZ c1).trans h2,P3,i9,by rw[gE];omega⟩
def ZmS:∀(fs:List Fr) (fuel:Nat) (S:b3) (s dr:Nat) (cur:c9) (rs:List Rw) (ao k:Nat) (v0 v1 v2 v3 a7 a8 a9 a10 a11:Option D),jq cs c d M S s dr cur fs rs ao k->B fs<fuel->k+B fs<=700->B rs+2*B fs<=800 ->
  ∃(S':b3) (cj:Nat) (n9:c9) (vc:List Rw),vC (e2 ur (Zb 5)<|Zz Ze) GL fuel [v0,v1,v2,v3,My<|B M,My s,My dr,a7,a8,a9,a10,a11] S= .nx [v0,v1,v2,v3,My<|B M,My s,My cj,a7,a8,a9,a10,a11] S'/\jq cs c d M S' s cj n9 [] vc ao (k+B fs)/\vc.length<=B rs+2*B fs/\gl (cH vc)<=gl (cH rs)+9*fs.length
 |[],fuel,S,s,dr,cur,rs,ao,k,v0,v1,v2,v3,a7,a8,a9,a10,a11,P,h1,_,_=>by obtain⟨f,rfl⟩:∃f,fuel=f+1:=⟨fuel-1,fY (O_ _ _)<|lR<|N8 b5⟩;refine⟨S++[.L []],dr,cur,rs,?_,P.app _,i9,i9⟩;rw[Fx,P.iI.GQ J];rfl|f::fs,fuel,S,s,dr,cur,rs,ao,k,v0,v1,v2,v3,a7,a8,a9,a10,a11,P,h1,h2,h3=>by rw[Yp]at h1 h2 h3;obtain⟨n,rfl⟩:∃n,fuel=n+1:=⟨fuel-1,fY (O_ _ _)<|lR<|N8 b5⟩;let⟨S1,GY,Te,G2,hb,P1,q1,q2⟩:=Zuk (P.app [.L []]) b5 b5 v0 v1 v2 v3 a7 a8 a9 a10 a11;let⟨S',cj,n9,vc,hw,P',p1,p2⟩:=ZmS fs n S1 s GY Te G2 ao (k+1) v0 v1 v2 v3 a7 a8 a9 a10 a11 P1 b5 b5 b5;refine⟨S',cj,n9,vc,?_,P'.mono (by rw[Yp];omega),by rw[Yp];omega,by rw[Yp];omega⟩;rw[Fx,P.iI.GQ J];show(match GL _ _ with| .nx e M'=>_| .ct e M'=>_| .bk e M'=>_|o=>o)=_;rwa[hb]
def Zub{many:Nat}(dk:cW cs c d ao M)(r9:M[nr]?=O (.L<|names.map D.str))(nd:nr≠d)(hn:B names=12)(qV:∀x∈names,b_ x)(hm:many<=400)(ha:ao<100000):
  ∃(S:b3) (n:Nat) (rs:List Rw) (ds:c9) (at':Nat),Q3 [.ref d,.ref nr,.int (many:Int),.int 2400] M= .ok (.ref n) S/\S[n]?=O (.L [.ref<|B M,.U ds])/\S[B M]?=O (.L<|(cH rs).map D.str)/\cW cs c d at' S/\Kp d M S/\(∀r∈rs,gJ r)/\lF rs iPf=O [⟨lG,[],[],ds⟩]/\rs.length<=424/\gl (cH rs)<=3509/\ds.length<=412/\at'<=ao+48400:=by
 have ld:=dk.lt
 let M1:=M++[MO.L []]
 let M2:=M1++[MO.L []]
 let M3:=M2++[MO.L []]
 have l1:B M1=B M+1:=by simp[M1]
 have l2:B M2=B M+2:=by simp[M2,M1]
 have ZkC:cM (B M+1) M3 (B M1) (B M2) [] []:=⟨Zj (Zm M1 _ _) _,nofun,nofun,Zm M2 _ _,i9,λa ha=>⟨by rw[Yx.mp ha];exactλz=>by omega,nofun⟩,b5,λa ha=>by rw[Yx.mp ha];exact lR l1.symm,nofun⟩;have Zlp:jq cs c d M M3 (B M1) (B M2) [] [] [] ao 0:=⟨ZkC,((dk.app _).app _).app _,((Kp.app d M _).trans<|Kp.app d _ _).trans<|Kp.app d _ _,Zj (Zj (Zm M _ _) _) _,nofun,rfl,nofun,g_ _,⟨Yu _,nofun⟩,ld⟩;have Af0:B (lW 0 many)=many:=by simp[lW]
 let⟨S1,s1,GY,Te,fs1,G2,A0,y7,y8,y9,sQ,w4,hl,P1,q1,q2,q3⟩:=Zpq r9 nd hn qV (it:=⟨lW 0 many,Yj⟩) J (v2:=c8 (many:Int)) (lW 0 many) M3 (B M1) (B M2) [] [] [] ao 0 Yj Yj Yj Yj Zlp b5 (Yu _) b5 aaA;have hf:=P1.le;let⟨S2,dr2,DY,GV,hw,P2,p1,p2⟩:=ZmS fs1 1000000 S1 s1 GY Te G2 A0 400 (My d) (My nr) (c8 (many:Int)) (c8 2400) y7 y8 y9 sQ w4 P1 b5 b5 b5;refine⟨S2++[.L [.ref<|B M,.U DY]],B S2,GV,DY,A0,?_,Zm _ _ _,Zj P2.rw _,P2.dk.app _,P2.kp.trans<|Kp.app d _ _,P2.ok,P2.DX,b5,b5,by have:=P2.bd.1;omega,b5⟩;refine(jT (M':=S2++[.L [.ref<|B M,.U DY]]) (env:=[My d,My nr,c8 (many:Int),c8 2400,Yj,Yj,Yj,Yj,Yj,Yj,Yj,Yj]) ?_).trans (Rv P2.kp.len);unfold Z8;refine(Zi<|Zq (d:=.ref<|B M) (M':=M1) tw).trans ((Zi<|Zq (d:=.ref<|B M1) (M':=M2) tw).trans<|(Zi<|Zq (d:=.ref<|B M2) (M':=M3) tw).trans<|(Zi<|Zq (d:=.int 0) J).trans ?_);have hr:ud (Zb 2) [My d,My nr,c8 (many:Int),c8 2400,My<|B M,My<|B M1,My<|B M2,c8 0,Yj,Yj,Yj,Yj] M3= .ok ⟨lW 0 many,Yj⟩ M3:=by have:(many:Int)<=1000000/\ -1000000<=(many:Int):=⟨b5,b5⟩;simp[this]
 refine(Zi<|(BP hr).trans hl).trans ((Zi hw).trans ?_);exact b7<|bM (ds:=[.ref<|B M,.U DY]) (Zo J<|Zo (bR J<|vD P2.iI.hc) J) J
end
abbrev lnB:S3:=(Zt fR ag)
def cG(x:Int):Nat:=97+(x % 26).toNat
def Dr(x:Int):97<=cG x/\cG x<=122:=by have a:=tX x (b:=26) aaA;have b:=wN x (b:=26) aaA;unfold cG;exact⟨iG _ _,b5⟩
def Lw(x:Int)(M:b3):Zn (.str sD) (.int<|x % 26) M= .ok (.str [cG x]) M:=by
 have a:=tX x (b:=26) aaA;have b:=wN x (b:=26) aaA;obtain⟨n,hn⟩:∃n:Nat,x % 26=(n:Int):=⟨(x % 26).toNat,tW (Ol _)<|Ij<|Ii a⟩;have j1:n<26:=by omega
 have key:∀n:Nat,n<26->sD[n]?=O (97+n):=by decide
 unfold cG;rw[hn,WP,cP,key n j1,u6];exact c_ aaA
def mul_str(c n:Nat)(hn:n<1000)(M:b3):gQ (.str [c]) (.int (n:Int)) M= .ok (.str<|Yq n c) M:=by rw[Zr9,c_ ⟨by show 1*n<=1000000;omega,b5,b5⟩];simp
def add_str{x y:b9}(h:B x+B y<=1000)(M:b3):Zv (.str x) (.str y) M= .ok (.str<|x++y) M:=by rw[ZtO,c_<|Yi h aaA]
def uH(mo:Int)(k:Nat):b9:=Yq (1+(mo / 26 % 8).toNat)<|cG<|mo+k
def xY(mo:Int)(k:Nat):b9:=dG.getD (((k:Int)+mo) % 12).toNat []++[cG<|mo / 26]
def qW(mo:Int)(k:Nat):b9:=(Yq (1+k % 8) (cG mo)++Yq (k / 8) (cG<|mo+1)).take 8
def xZ(mo:Int)(k:Nat):b9:=[cG<|mo / 26]++[cG<|mo+k]++Yq (mo / 676 % 7).toNat (cG<|mo / 7)
def lH(q:Int)(mo:Int)(k:Nat):b9:=if q=3 then xZ mo k else if q=2 then qW mo k else if q=1 then xY mo k else uH mo k
def j_(q mo:Int)(k:Nat):b9:=if lH q mo k∈dG then lH q mo k++[120]else lH q mo k
def GZ:∀w∈dG,3<=B w/\w.length<=5/\(∀c∈w,97<=c/\c<=122)/\w.dropLast∉dG/\w.getLast?≠O 120/\w[0]?≠w[1]?:=by decide
def Lx(mo:Int)(k:Nat):∃j:Nat,((k:Int)+mo) % 12=(j:Int)/\j<12/\dG.getD (((k:Int)+mo) % 12).toNat []∈dG/\dG[j]?=O (dG.getD (((k:Int)+mo) % 12).toNat []):=by
 let⟨j,ej,hj⟩:=fC ((k:Int)+mo) 12 aaA;have ej:((k:Int)+mo) % 12=(j:Int):=ej;have hj':j<B dG:=hj;refine⟨j,ej,hj,?_,?_⟩
 .rw[ej,u6,HW,Y0 hj'];exact tO _
 .rw[ej,u6,HW,Y0 hj'];rfl
def Rz(h:97<=c/\c<=122):∀x∈Yq n c,97<=x/\x<=122:=λx hx=>by rwa[List.eq_of_mem_replicate hx]
def Ly{x y:b9}(h:∀c∈x,97<=c/\c<=122)(k:∀c∈y,97<=c/\c<=122):∀c∈x++y,97<=c/\c<=122:=λc hc=>(gF.mp hc).elim (h c)<|k c
def RB(h:97<=a/\a<=122):∀c∈[a],97<=c/\c<=122:=λc hc=>by rwa[Yx.mp hc]
def Zpb(q mo:Int)(k:Nat):1<=B (lH q mo k)/\(lH q mo k).length<=8/\∀c∈lH q mo k,97<=c/\c<=122:=by
 have m8:0<=mo / 26 % 8/\mo / 26 % 8<8:=⟨tX _ aaA,wN _ aaA⟩;have m7:0<=mo / 676 % 7/\mo / 676 % 7<7:=⟨tX _ aaA,wN _ aaA⟩;unfold lH;by_cases h3:q=3
 .rw[c_ h3];refine⟨by simp[xZ],by simp[xZ];omega,Ly (Ly (RB<|Dr _)<|RB<|Dr _)<|Rz<|Dr _⟩
 rw[d4 h3];by_cases h2:q=2
 .rw[c_ h2];refine⟨by simp[qW];omega,by simp[qW];exact(LO _ _),λc hc=>Ly (Rz<|Dr _) (Rz<|Dr _) c<|List.take_subset _ _ hc⟩
 rw[d4 h2];by_cases h1:q=1
 .rw[c_ h1];let⟨j,_,_,hm,_⟩:=Lx mo k;have w:=GZ _ hm;exact⟨by rw[xY,Yd];exact Ob _ _,by rw[xY,Yd,Y8];omega,Ly w.2.2.1<|RB<|Dr _⟩
 .rw[d4 h1];exact⟨by rw[uH,pq];exact iG _ _,by rw[uH,pq];omega,Rz<|Dr _⟩
def Zxn(q mo:Int)(k:Nat):b_ (j_ q mo k):=by
 have f:=Zpb q mo k;unfold j_;by_cases h:lH q mo k∈dG
 .rw[c_ h];have w:=GZ _ h;exact⟨by rw[Yd];exact Ob _ _,by rw[Yd,Y8];omega,λz=>(GZ _ z).2.2.2.2.1 i9,Ly f.2.2<|RB aaA⟩
 .rw[d4 h];exact⟨f.1,f.2.1,h,f.2.2⟩
def Zpo{mo:Int}(hi:i<12)(hj:j<12)(h:cG (mo+i)=cG (mo+j)):i=j:=by have a1:=tX (mo+i) (b:=26) aaA;have a2:=tX (mo+j) (b:=26) aaA;unfold cG at h;omega
def Zp2{q mo:Int}{k m:Nat}(h:m<B (lH q mo k)):(j_ q mo k)[m]?=(lH q mo k)[m]?:=by
 unfold j_;split
 .exact Yk h
 .rfl
def Zud{q mo:Int}(hi:i<12)(hj:j<12)(h:j_ q mo i=j_ q mo j):i=j:=by
 by_cases h3:q=3
 .have e:∀k:Nat,lH q mo k=xZ mo k:=λk=>by unfold lH;rw[c_ h3]
  have g:∀k:Nat,(j_ q mo k)[1]?=O (cG<|mo+k):=λk=>by rw[Zp2 (by rw[e];simp[xZ]),e];rfl
  have:=g i;rw[h,g j]at this;exact(Zpo hj hi<|fM this).symm
 by_cases h2:q=2
 .have e:∀k:Nat,lH q mo k=qW mo k:=λk=>by unfold lH;rw[d4 h3,c_ h2]
  have ne:cG mo≠cG (mo+1):=λz=>by unfold cG at z;omega
  have AK:∀k:Nat,k<12->(k<8/\qW mo k=Yq (k+1) (cG mo))\/(8<=k/\qW mo k=Yq (k-7) (cG mo)++[cG<|mo+1]):=λk hk=>by
   by_cases z:k<8
   .left;refine⟨z,?_⟩;rw[qW,Nat.mod_eq_of_lt z,Nat.div_eq_of_lt z,l_ 1 k,List.replicate_zero,iD,tL (by rw[pq];omega)]
   .right;refine⟨k_ z,?_⟩;have d1:k / 8=1:=by omega
    have d2:1+k % 8=k-7:=by omega
    rw[qW,d1,d2,tL (by rw[Yd,pq,pq];omega)];rfl
  have nw:∀k:Nat,k<12->j_ q mo k=qW mo k:=λk hk=>by
   unfold j_;rw[e,d4 λz=>?_];have w:=GZ _ z;rcases AK k hk with⟨z1,f⟩|⟨z1,f⟩
   .rw[f,pq]at w;apply w.2.2.2.2.2;rw[HS b5,HS b5]
   .rw[f,Yd,pq,Y8]at w;apply w.2.2.2.2.2;rw[Yk (by rw[pq];omega),Yk (by rw[pq];omega),HS b5,HS b5]
  rw[nw i hi,nw j hj]at h;have hl:=congrArg yN h;have hg:=congrArg List.getLast? h;rcases AK i hi with⟨z1,f1⟩|⟨z1,f1⟩<;>rcases AK j hj with⟨z2,f2⟩|⟨z2,f2⟩<;>rw[f1,f2]at hl hg
  .simp at hl;exact hl
  .simp[KG]at hg;exact k9 hg ne
  .simp[KG]at hg;exact k9 hg.symm ne
  .simp at hl;exact fY b5 b5
 by_cases h1:q=1
 .have e:∀k:Nat,lH q mo k=xY mo k:=λk=>by unfold lH;rw[d4 h3,d4 h2,c_ h1]
  have nw:∀k:Nat,j_ q mo k=xY mo k:=λk=>by unfold j_;rw[e,d4 λz=>?_];let⟨_,_,_,hm,_⟩:=Lx mo k;have w:=(GZ _ z).2.2.2.1;rw[xY,List.dropLast_concat]at w;exact w hm
  rw[nw,nw]at h;have h:=List.append_cancel_right h;let⟨a,ea,ha,_,ga⟩:=Lx mo i;let⟨b,eb,hb,_,gb⟩:=Lx mo j;rw[h]at ga;have hn:dG.Nodup:=by decide
  have:=(List.getElem?_inj (show a<B dG from ha) hn).mp<|ga.trans gb.symm;omega
 .have e:∀k:Nat,lH q mo k=uH mo k:=λk=>by unfold lH;rw[d4 h3,d4 h2,d4 h1]
  have g:∀k:Nat,(j_ q mo k)[0]?=O (cG<|mo+k):=λk=>by rw[Zp2 (by rw[e,uH,pq];omega),e,uH,HS b5]
  have:=g i;rw[h,g j]at this;exact(Zpo hj hi<|fM this).symm
def ZwB(h:M[n]?=O (.L<|dG.map D.str))(x:b9):BW (.str x) (.ref n) M= .ok (.bl<|decide<|x∈dG) M:=by
 have he:∀l:d6,(l.map D.str).any (λy=>fP y<|.str x)=decide (x∈l):=by
  intro l
  induction l with
  |nil=>rfl|cons y l ih=>
   rw[Yw,nY,ih,SD];by_cases h:y=x
   .subst h;simp
   .have h':x≠y:=λe=>h e.symm;simp[h,h']
 have hf:(e_ (.str x)&&(dG.map D.str).all e_)=true:=rfl;rw[ZsQ,h];simp only[hf,if_true,he]
def Ha{c f:E3}{p:Prop}[Decidable p]{x y:D}(hc:c env M= .ok (.bl<|decide p) M)(hf:f env M= .ok x M)(hi:env[i]?=O (O y)):aG c (aC i f) aW env M= .nx (env.set i<|O<|if p then x else y) M:=by
 by_cases h:p
 .rw[j2 h]at hc;rw[c_ h];exact(cO hc).trans (Zq hf J)
 .rw[j3 h]at hc;rw[d4 h];refine(cZ hc).trans ?_;congr 1;apply Eo;intro j;by_cases e:j=i
  .subst e;rw[Y4 (Yg.mp hi).1,hi]
  .rw[Ys<|cu e]
def Zu0{on:Nat}{v:Int}{acc:c9}{k:Nat}(ho:M[on]?=O (.L<|dG.map D.str))(hk:k<12)(hl:B acc<100){v0 x9 x10:Option D}:
  ∃y9 sQ,lnB [v0,My on,i5 sD,c8 v,c8<|v / 4,i5 [cG<|v / 4],i5 [cG<|v / 4 / 26],My<|B M,c8 (k:Int),x9,x10] (M++[.L acc])= .nx [v0,My on,i5 sD,c8 v,c8<|v / 4,i5 [cG<|v / 4],i5 [cG<|v / 4 / 26],My<|B M,c8 (k:Int),y9,sQ] (M++[.L<|acc++[.str<|j_ (v % 4) (v / 4) k]]):=by
 let mo:=v / 4
 let S:=M++[MO.L acc]
 have hoS:S[on]?=O (.L<|dG.map D.str):=Zj ho _;have m8:0<=mo / 26 % 8/\mo / 26 % 8<8:=⟨tX _ aaA,wN _ aaA⟩;have m7:0<=mo / 676 % 7/\mo / 676 % 7<7:=⟨tX _ aaA,wN _ aaA⟩
 let En (n:b9):bO:=[v0,My on,i5 sD,c8 v,c8 mo,i5 [cG mo],i5 [cG<|mo / 26],My<|B M,c8 (k:Int),i5 [cG<|mo+k],i5 n]
 have q4:∀(n:b9) (c:Int),e2 aN mf (eC<|.int c) (En n) S= .ok (.bl<|decide<|v % 4=c) S:=λn c=>Zf AR J (by simp only[aN,rH]);have s9:aC 9 gi [v0,My on,i5 sD,c8 v,c8 mo,i5 [cG mo],i5 [cG<|mo / 26],My<|B M,c8 (k:Int),x9,x10] S= .nx [v0,My on,i5 sD,c8 v,c8 mo,i5 [cG mo],i5 [cG<|mo / 26],My<|B M,c8 (k:Int),i5 [cG<|mo+k],x10] S:=Zq<|Zf J DL<|Lw _ _;obtain⟨e8,he8⟩:∃n:Nat,mo / 26 % 8=(n:Int):=⟨(mo / 26 % 8).toNat,by exact tW (Ol _)<|Ij<|Ii m8.1⟩;obtain⟨e7,he7⟩:∃n:Nat,mo / 676 % 7=(n:Int):=⟨(mo / 676 % 7).toNat,tW (Ol _)<|Ij<|Ii m7.1⟩;have Qv:aC 10 eA [v0,My on,i5 sD,c8 v,c8 mo,i5 [cG mo],i5 [cG<|mo / 26],My<|B M,c8 (k:Int),i5 [cG<|mo+k],x10] S= .nx (En<|uH mo k) S:=by
  refine Zq (d:=.str<|uH mo k)<|Zf (M2:=S) J (b:=.int ((1+e8:Nat):Int)) (Zf J r6 ?_) ?_
  .rw[oF,he8];congr 2
  .rw[mul_str _ _ b5,uH,he8,u6]
 let⟨j,ej,hj,hm,hg⟩:=Lx mo k;have w1:=GZ _ hm
 let n1:=uH mo k
 let n2:=if v % 4=1 then xY mo k else n1
 let n3:=if v % 4=2 then qW mo k else n2
 let n4:=if v % 4=3 then xZ mo k else n3
 have f1:e2 Zv gp (Zb 6) (En n1) S= .ok (.str<|xY mo k) S:=by refine Zf (Zf J DL<|dO hoS (d:=.str<|dG.getD (((k:Int)+mo) % 12).toNat []) ?_) J (add_str (by simp only[Y8];omega) S);rw[ej,cP,jg,hg,ej];rfl
 have Qt:=Ha (i:=10) (q4 n1 1) f1 (y:=.str n1) J;have Znm:((k:Int)) % 8=((k % 8:Nat):Int):=by omega
 have k8d:((k:Int)) / 8=((k / 8:Nat):Int):=by omega
 have t1:e2 Zv fS dy (En n2) S= .ok (.str<|Yq (1+k % 8) (cG mo)++Yq (k / 8) (cG<|mo+1)) S:=by refine Zf (Zf J (b:=.int ((1+k % 8:Nat):Int)) (Zf J AR (by rw[oF,Znm];congr 2))<|mul_str _ _ b5 S) (Zf (Zf J DL<|Lw _ _) (b:=.int ((k / 8:Nat):Int)) (Zf J J<|(dm aaA).trans<|by rw[k8d])<|mul_str _ _ b5 S)<|add_str r0 S
 have s12:aG ib br aW (En n2) S= .nx (En n3) S:=by
  by_cases h:v % 4=2
  .have c:=q4 n2 2;rw[j2 h]at c;have e3:n3=qW mo k:=c_ h;rw[e3];refine(cO c).trans ((Zi<|Zq (env':=En<|Yq (1+k % 8) (cG mo)++Yq (k / 8) (cG<|mo+1)) t1 J).trans<|Zq (d:=.str<|qW mo k) ?_ J);show Bv (.str _) Yj (O ((8:Nat):Int)) S=_;rw[Bw,c_ (by rw[Yd,pq,pq];exact Yi (show _<=100 by omega) aaA),Df];rfl
  .have c:=q4 n2 2;rw[j3 h]at c;have e3:n3=n2:=d4 h;rw[e3];exact cZ c
 have f3:e2 Zv (e2 Zv (Zb 6)<|Zb 9) cw (En n3) S= .ok (.str<|xZ mo k) S:=by refine(Zf (Zf J J<|add_str (x:=[cG<|mo / 26]) (y:=[cG<|mo+k]) (show 1+1<=1000 by decide) S) (Zf (Zf J r6<|Lw _ _) (b:=.int (e7:Int)) (Zf vE J<|(cg aaA).trans<|by rw[he7])<|mul_str _ _ b5 S)<|add_str r0 S).trans ?_;rw[xZ,he7,u6]
 have s13:=Ha (i:=10) (q4 n3 3) f3 (y:=.str n3) J;have eB:n4=lH (v % 4) mo k:=by show(if v % 4=3 then xZ mo k else if v % 4=2 then qW mo k else if v % 4=1 then xY mo k else uH mo k)=_;rfl
 have ZpE:=Zpb (v % 4) mo k;have Zlg:e2 BW (Zb 10) (Zb 1) (En n4) S= .ok (.bl<|decide<|n4∈dG) S:=Zf J J<|ZwB hoS n4;have f5:e2 Zv (Zb 10) (eC<|.str [120]) (En n4) S= .ok (.str<|n4++[120]) S:=Zf J J (add_str (by rw[eB,Y8];omega) S);have s14:=Ha (i:=10) Zlg f5 (y:=.str n4) J;have en:∀(p:Prop) [Decidable p] (a b c:b9),(En c).set 10 (O<|if p then D.str a else D.str b)=En (if p then a else b):=λp _ a b c=>by by_cases h:p<;>simp[h,En]
 rw[en]at Qt s13 s14;refine⟨_,_,(Zi s9).trans<|(Zi Qv).trans<|(Zi Qt).trans<|(Zi s12).trans<|(Zi s13).trans<|(Zi s14).trans (?_:_=O3.nx (En<|j_ (v % 4) mo k) _)⟩;have ZiT:(if n4∈dG then n4++[120]else n4)=j_ (v % 4) mo k:=by rw[eB];rfl
 rw[ZiT];refine(E7 J (Zm M _ []) J (Zm M _ [])<|mX hl aaA).trans ?_;simp[mo]
def Zpl{M:b3}{on:Nat}{v:Int}(ho:M[on]?=O (.L<|dG.map D.str)){it:ir}(hi:it.lock=Yj){v0:Option D}:
  ∀(m k:Nat) (acc:c9) (x8 x9 x10:Option D),k+m=12->B acc<=k->∃y8 y9 sQ,iz it (cV 8) lnB ((tR k m).map λ(i:Nat)=>D.int (i:Int)) [v0,My on,i5 sD,c8 v,c8<|v / 4,i5 [cG<|v / 4],i5 [cG<|v / 4 / 26],My<|B M,x8,x9,x10] (M++[.L acc])= .nx [v0,My on,i5 sD,c8 v,c8<|v / 4,i5 [cG<|v / 4],i5 [cG<|v / 4 / 26],My<|B M,y8,y9,sQ] (M++[.L<|acc++(tR k m).map λi=>D.str<|j_ (v % 4) (v / 4) i])
 |0,k,acc,x8,x9,x10,_,_=>⟨x8,x9,x10,by show iz _ _ _ [] _ _=_;rw[w6,c_ (by unfold locked;rw[hi])];simp⟩|m+1,k,acc,x8,x9,x10,h1,h2=>by let⟨y9,sQ,hb⟩:=Zu0 (v:=v) (acc:=acc) (k:=k) ho b5 b5 (v0:=v0) (x9:=x9) (x10:=x10);let⟨z8,z9,GW,hl⟩:=Zpl ho hi m (k+1) (acc++[.str<|j_ (v % 4) (v / 4) k]) (c8 (k:Int)) y9 sQ (fY b5 b5) (by rw[Yd];exact pD h2);refine⟨z8,z9,GW,?_⟩;rw[Lm,Yw,Yw,rK,c_ (by unfold locked;rw[hi])];simp only[cV,qx,qy];rw[hb];simp only;rw[hl,ju];rfl
section
variable {cs:List Int} {c d ao:Nat} {M:b3}
def ZsA(dk:cW cs c d ao M)(ha:ao<900000):∃(S:b3) (n:Nat) (names:d6),QZ [.ref d] M= .ok (.ref n) S/\S[n]?=O (.L<|names.map D.str)/\M.length<=n/\names.length=12/\(∀x∈names,b_ x)/\names.Nodup/\cW cs c d (ao+1) S/\Kp d M S:=by
 have ld:=dk.lt
 let M1:=M++[MO.L<|dG.map D.str]
 let⟨v,S1,hv,D1,nP,l1⟩:=(dk.app [MO.L<|dG.map D.str]).draw b5;have ho:S1[B M]?=O (.L<|dG.map D.str):=nP.get (Zm M _ []) (λz=>by omega);let⟨y8,y9,sQ,hl⟩:=Zpl (v:=v) ho (it:=⟨lW 0 12,Yj⟩) J (v0:=My d) 12 0 [] Yj Yj Yj J<|Yu _
 let names:=(tR 0 12).map λi=>j_ (v % 4) (v / 4) i
 have en:(tR 0 12).map (λi=>D.str<|j_ (v % 4) (v / 4) i)=names.map D.str:=by rw[pC];rfl
 have er:(tR 0 12).map (λ(i:Nat)=>D.int (i:Int))=lW 0 12:=by simp[lW,KP]
 rw[jw,en,er]at hl;have hML:B M<=B S1:=by rw[l1];exact len_app M _
 refine⟨S1++[.L<|names.map D.str],B S1,names,?_,Zm _ _ _,hML,rfl,λx hx=>by let⟨i,_,rfl⟩:=kZ.mp hx;exact Zxn _ _ i,?_,D1.app _,((Kp.app d M _).trans nP).trans<|Kp.app d S1 _⟩
 .refine(jT (M':=S1++[.L<|names.map D.str]) (env:=[My d,Yj,Yj,Yj,Yj,Yj,Yj,Yj,Yj,Yj,Yj]) ?_).trans (Rv hML);unfold Z2;refine(Zi<|Zq (d:=.ref<|B M) (M':=M1)<|bM (ds:=dG.map D.str) J J).trans ((Zi<|Zq (d:=.str sD) J).trans<|(Zi<|Zq<|dD J hv).trans<|(Zi<|Zq (d:=.int<|v / 4) vE).trans<|(Zi<|Zq<|Zf J AR<|Lw _ _).trans<|(Zi<|Zq<|Zf J r6<|Lw _ _).trans<|(Zi<|Zq (d:=.ref<|B S1) (M':=S1++[.L []]) tw).trans ?_);have hr:ud pv [My d,My<|B M,i5 sD,c8 v,c8<|v / 4,i5 [cG<|v / 4],i5 [cG<|v / 4 / 26],My<|B S1,Yj,Yj,Yj] (S1++[.L []])= .ok ⟨lW 0 12,Yj⟩ (S1++[.L []]):=by simp
  exact(Zi<|(BP hr).trans hl).trans (b7 J)
 .have key:∀l:b9,l.Nodup->(∀i∈l,i<12)->(l.map λi=>j_ (v % 4) (v / 4) i).Nodup:=by
   intro l
   induction l with
   |nil=>intro _ _;exact Lv|cons i l ih=>intro hn Tf;rw[Yw,lO];refine⟨λhm=>?_,ih (lO.mp hn).2 λj hj=>Tf j<|Yf _ hj⟩;let⟨j,hj,e⟩:=kZ.mp hm;have:=Zud (Tf j<|Yf _ hj) (Tf i Ye) e;exact(lO.mp hn).1 (this▸hj)
  exact key _ aaA aaA
end
def dg(w:b9):Bool:=decide (B w<=62)&&(decide (32∉w)&&decide (10∉w))
def Hb{w:b9}(h1:B w<=62)(h2:32∉w)(h3:10∉w):dg w=true:=by unfold dg;rw[j2 h1,j2 h2,j2 h3];rfl
def Lz{w:b9}(h:dg w=true):B w<=62/\32∉w/\10∉w:=by unfold dg at h;rw[gO,gO]at h;exact⟨of_decide_eq_true h.1,of_decide_eq_true h.2.1,of_decide_eq_true h.2.2⟩
def b_.wf{x:b9}(h:b_ x):dg x=true:=Hb (Yi h.le aaA) (λz=>k9 (h.low _ z).1 aaA) λz=>k9 (h.low _ z).1 aaA
def b_.key{x:b9}(h:b_ x):cQ x fj=Yj:=by
 cases e:cQ x fj with
 |none=>rfl|some c=>have:=FY (h:=x) (by rw[e];exact nofun);refine k9 ?_ h.own;rcases this with e|e|e|e|e|e|e<;>(rw[e];decide +kernel)
def b_.nt{x:b9}(h:b_ x):x≠dw:=λe=>h.own (by rw[e];decide +kernel)
structure jW(first:Bool)(wb:d6):Prop where
 ne:wb≠[]/\glue [32] wb≠[]
 wf:∀w∈wb,dg w=true
 le:B wb<=20
 nd:Aa wb
 hd:first =true->(∃h r,wb=h::r/\h≠dw)\/∃tk,wb=dw::tk/\nO tk=false
variable{first:Bool}
def jW.line(h:jW first wb):sU wb/\(glue [32] wb).length<=1260:=by have:=(Dg 32 62 wb λw hw=>(Lz<|h.wf w hw).1).2;have l:=h.le;exact⟨⟨h.ne.1,λw hw=>(Lz<|h.wf w hw).2,h.ne.2,b5⟩,b5⟩
def RD{r:d6}(hh:h≠[]\/r≠[]):h::r≠[]/\glue [32] (h::r)≠[]:=by
 refine⟨nofun,λz=>?_⟩;cases r with
 |nil=>exact hh.elim (λq=>q z) λq=>q rfl|cons y ys=>rw[sE]at z;exact k9 (HX.mp (HX.mp z).2).1 aaA
structure Hd(w:b9):Prop where
 ok:qi w=false
 nm:i3 w=false
 wf:dg w=true
def Zz5{w:b9}(h:(!qi w&&(!i3 w&&dg w))=true):Hd w:=by rw[gO,gO,Vd,Vd]at h;exact⟨h.1,h.2.1,h.2.2⟩
def ZrM(h:∀w∈ws,dg w=true):∀w∈ws,B w<=1000:=λw hw=>Yi (Lz<|h w hw).1 aaA
def He{r:d6}(hk:cQ h fj=Yj)(hn:h≠dw)(wf:∀w∈h::r,dg w=true)(l:B r<=19)(hh:h≠[]\/r≠[]):jW first (h::r):=⟨RD hh,wf,pD l,kD hk,λ_=>.inl ⟨h,r,rfl,hn⟩⟩
def Zm7(wf:∀w∈tk,dg w=true)(l:B tk<=19)(hb:first =true->nO tk=false):jW first (dw::tk):=⟨RD<|.inl nofun,λw hw=>by
 rcases Yo.mp hw with e|e
 .rw[e];decide +kernel
 .exact wf w e,pD l,kD aaE,λf=>.inr ⟨tk,rfl,hb f⟩⟩
def uI{xs:d6}{c:Int}(hk:cQ h fj=O c)(hx:B xs=if h=iR then 1 else 0)(wf:∀w∈xs++ws,dg w=true)(l:B (xs++ws)<=19)(hs:xs.all i3=true->v4 ws c):jW first (h::(xs++ws)):=by
 have q:=F0 (h:=h) (by rw[hk];exact nofun);refine⟨RD (.inl λz=>by rw[z]at q;exact k9 q.1 aaA),λw hw=>?_,pD l,su hk hx (Yi l aaA) (ZrM wf) (by rwa[U3,LA]),λ_=>.inl ⟨h,_,rfl,λe=>by rw[e,show cQ dw fj=Yj by decide +kernel]at hk;cases hk⟩⟩;rcases Yo.mp hw with e|e
 .rw[e];exact Hb (Yi q.2.1 aaA) (λz=>k9 (q.2.2 _ z) aaA) λz=>k9 (q.2.2 _ z) aaA
 .exact wf w e
def Ds{c:Int}{x:b9}(wf:∀w∈ws,dg w=true)(l:B ws<=60)(hx:x∈ws)(hb:qi x=false):v4 ws c:=ZmZ (ZrM wf) l (by
 cases e:ws.all qi with
 |false=>rfl|true=>rw[jh.mp e x hx]at hb;cases hb)
def Hk{x:b9}(hx:x∈tk)(hb:i3 x=false):nO tk=false:=by
 unfold nO;have:tk.all i3=false:=by
  cases e:tk.all i3 with
  |false=>rfl|true=>rw[jh.mp e x hx]at hb;cases hb
 rw[this,mj,mj,mj]
def Zst(h:6<B tk):nO tk=false:=by unfold nO;rw[j3<|Nat.not_le.mpr h,yU,mj]
def ZqY(x y:b9):nO [x,y,x]=false:=by
 unfold nO;have:¬(unlike [] [x,y,x]).length=3:=by
  by_cases h:x=y
  .simp[unlike,h]
  .simp[unlike,h,show¬y=x fromλe=>h e.symm]
 have e:B ([x,y,x]:d6)=3:=rfl;rw[e,j3 this,yU,mj,mj]
theorem Hm:∀(q:c9) (s:sA×Nat),B s.1<=(q.foldl qB s).1.length
 |[],_=>Yu _|w::q,s=>Yi (by unfold qB;simp only[];split <;>simp <;>omega)<|Hm q<|qB s w
def Zvw{t:Sm}(ht:t.good){p q:c9}(e:t.flat=p++q)(hp:p≠[])(hq:q≠[]):(p.foldl qB ([],0)).2≠0:=λz=>by
 have h:=Rf [t] (λs hs=>by rwa[Yx.mp hs]) [];rw[show([t].map Sm.flat).flatten=p++q by simp[e],UJ]at h;let⟨w,q',rfl⟩:=Kt hq;let⟨v,p',rfl⟩:=Kt hp;have l1:1<=((v::p').foldl qB ([],0)).1.length:=Yi (List.length_pos_iff.mpr (Fn ([],0) v).2)<|Hm p' _;have l2:=Hm q'<|qB ((v::p').foldl qB ([],0)) w;have e2:((v::p').foldl qB ([],0))=(((v::p').foldl qB ([],0)).1,0):=V0 J z;have l3:(qB ((v::p').foldl qB ([],0)) w).1.length=((v::p').foldl qB ([],0)).1.length+1:=by rw[e2,Rb,z_];simp
 have l4:((w::q').foldl qB<|(v::p').foldl qB ([],0)).1.length=1:=by rw[h];rfl
 rw[rA]at l4;omega
def ZrL{t:Sm}(ht:t.good):((t.flat++[D.str jk]).foldl qB ([],0)).2≠0:=by have h:=Rf [t] (λs hs=>by rwa[Yx.mp hs]) [];rw[show([t].map Sm.flat).flatten=t.flat by simp]at h;rw[UJ,h,rA,List.foldl_nil,Rb,z_];show 0+ar (.str jk)≠0;decide +kernel
abbrev ve:d6:=[[48,49],[45,48],[43,49],[49,95,48],[45,45,49],[45],[49,46,48],[49,101,51],[97,66],[97,49],[95,97],[97,45,98],[65],[97,98,99,100,101,102,103,104,105]]
abbrev nQ:d6:=[[],Yq 61 49,45::Yq 61 57,[67,101,108,108],[97,100,100,115],[48,120,49]]
abbrev x_:d6:=[[48,120,49],BE,BF,BG,AV]
abbrev LC:d6:=[BH,AW,BI,BM]
abbrev Ac:d6:=ve++nQ.take 4++x_++LC
def Zul:(Ac.all λw=>!qi w&&(!i3 w&&dg w))=true:=by decide +kernel
def Zlm(v:Int):∃w,Hd w/\∀M,zV [.int v] M= .ok (.str w) M:=by
 let⟨a,ea,ha⟩:=fC v 27 aaA;have ea:v % 27=(a:Int):=ea;have hl:a<B Ac:=ha;refine⟨Ac[a]'hl,Zz5<|jh.mp Zul _<|tO hl,λM=>?_⟩
 let M1:=M++[MO.L<|ve.map D.str]
 let M2:=M1++[MO.L<|nQ.map D.str]
 let M3:=M2++[MO.L<|(nQ.take 4).map D.str]
 let M4:=M3++[MO.L<|ve.map D.str++(nQ.take 4).map D.str]
 let M5:=M4++[MO.L<|x_.map D.str]
 let M6:=M5++[MO.L<|ve.map D.str++(nQ.take 4).map D.str++x_.map D.str]
 let M7:=M6++[MO.L<|LC.map D.str]
 let M8:=M7++[MO.L<|Ac.map D.str]
 have l1:B M<B M1:=by simp[M1]
 refine Rt.pure (G:=[MO.L<|ve.map D.str,MO.L<|nQ.map D.str,MO.L<|(nQ.take 4).map D.str,MO.L<|ve.map D.str++(nQ.take 4).map D.str,MO.L<|x_.map D.str,MO.L<|ve.map D.str++(nQ.take 4).map D.str++x_.map D.str,MO.L<|LC.map D.str,MO.L<|Ac.map D.str]) (env:=[c8 v,Yj]) ?_ J;rw[show M++[MO.L<|ve.map D.str,MO.L<|nQ.map D.str,MO.L<|(nQ.take 4).map D.str,MO.L<|ve.map D.str++(nQ.take 4).map D.str,MO.L<|x_.map D.str,MO.L<|ve.map D.str++(nQ.take 4).map D.str++x_.map D.str,MO.L<|LC.map D.str,MO.L<|Ac.map D.str]=M8 by simp only[M8,M7,M6,M5,M4,M3,M2,M1,ju,yL,jw]];unfold Z9;refine(Zi<|Zq (d:=.ref<|B M) (M':=M1)<|bM (ds:=ve.map D.str) J J).trans ?_;have g1:M1[B M]?=O (.L<|ve.map D.str):=Zm _ _ _;have s6:∀env,Zz bq env M1= .ok (.ref<|B M1) M2:=λenv=>bM (ds:=nQ.map D.str) (Zo J<|Zo (Zf J J<|mul_str 49 61 aaA _)<|Zo (Zf J (Zf J J<|mul_str 57 61 aaA _)<|add_str aaA _) J) J;have s7:∀a0 a1,bf bp bh (aX pT) [a0,a1] M1= .ok (.ref<|B M2) M3:=λa0 a1=>by simp only[bf,s6,R3.bind,bh,aX,eC];rw[zm,show M2[B M1]?=O (.L<|nQ.map D.str)from Zm _ _ _];rfl
 refine(Zi<|Zq (d:=.ref<|B M5) (M':=M6)<|Zf (Zf (M3:=M4) J (s7 _ _)<|mH (Zj (Zj g1 _) _) (Zm _ _ []) aaA) (bM (ds:=x_.map D.str) J J)<|mH (Zj (Zm M3 _ []) _) (Zm _ _ []) aaA).trans ?_;have g6:M6[B M5]?=O (.L<|ve.map D.str++(nQ.take 4).map D.str++x_.map D.str):=Zm _ _ _;refine(Zi<|Zq (d:=.ref<|B M7) (M':=M8)<|Zf J (bM (ds:=LC.map D.str) J J)<|mH (Zj g6 _) (Zm _ _ []) aaA).trans ?_;have g8:M8[B M7]?=O (.L<|Ac.map D.str):=Zm _ _ _;refine b7<|Zf J (Zf J (bR J<|jU g8)<|cg aaA)<|dO g8 ?_;rw[show(B (Ac.map D.str):Int)=27 from rfl,ea,cP,jg,Y0 hl];rfl
def v7(f:Bool)(ws:d6):Prop:=(∀w∈ws,B w<=62)/\ws.length<=20/\∃wb,glue [32] ws=glue [32] wb/\jW f wb
variable{f:Bool}
def jW.t(h:jW f wb):v7 f wb:=⟨λw hw=>(Lz<|h.wf w hw).1,h.le,wb,rfl,h⟩
def o4(M S:b3)(f:Bool)(o:O3):Prop:=∃(n:Nat) (S':b3) (ws:d6),o= .rt (.ref n) S'/\S'[n]?=O (.L<|ws.map D.str)/\S<+:S'/\M.length<=n/\v7 f ws
def G4{l:d6}{k:Nat}{w:b9}{i:Int}(e:i=(k:Int))(h:l[k]?=O w):Zn (.ref<|B S) (.int i) (S++[.L<|l.map D.str])= .ok (.str w) (S++[.L<|l.map D.str]):=dO (Zm _ _ _) (by rw[e,cP,jg,h];rfl)
def Hn{a b:b9}(h1:dg a=true)(h2:dg b=true):∀w∈[a,b],dg w=true:=λw hw=>by
 rcases Yo.mp hw with e|e
 .rwa[e]
 .rwa[Yx.mp e]
def yc{a:b9}{l:d6}(h1:dg a=true)(h2:∀w∈l,dg w=true):∀w∈a::l,dg w=true:=λw hw=>by
 rcases Yo.mp hw with e|e
 .rwa[e]
 .exact h2 w e
def yd:∀w∈([]:d6),dg w=true:=nofun
section
variable {M S:b3} {d nr k5:Nat} {f:Bool} {v:Int} {n0 n1:b9} {rn sm:d6} {odd:b9} {a4 a6:Option D}
abbrev jr(d nr k5:Nat)(f:Bool)(v:Int)(odd:Option D)(a4 a6:Option D):bO:=[My d,My nr,O<|.bl f,c8 v,a4,My k5,a6,odd]
variable (hl:B M<=B S)
include hl
theorem Ae0(hn:S[nr]?=O (.L<|(n0::n1::rn).map D.str))(o0:b_ n0)(o1:b_ n1):o4 M S f (aT (jr d nr k5 f v a7 a4 a6) S):=by
 let⟨b,eb,hb⟩:=fC (v / 8) 6 aaA;have eb:v / 8 % 6=(b:Int):=eb;have key:∃X,[[83,101,116],Ct,CB,tT,[55],n0][b]?=O X/\cQ X fj=Yj/\X≠dw/\dg X=true:=by
  match b,hb with
  |0,_=>exact⟨_,rfl,aaE⟩|1,_=>exact⟨_,rfl,aaE⟩|2,_=>exact⟨_,rfl,aaE⟩|3,_=>exact⟨_,rfl,aaE⟩
  |4,_=>exact⟨_,rfl,aaE⟩|5,_=>exact⟨_,rfl,o0.key,o0.nt,o0.wf⟩
 let⟨X,h1,h2,h3,h4⟩:=key
 let S1:=S++[MO.L<|[[83,101,116],Ct,CB,tT,[55],n0].map D.str]
 refine⟨B S1,S1++[.L<|[X,n1,[53]].map D.str],[X,n1,[53]],b7<|bM (ds:=[X,n1,[53]].map D.str) (Zo (Zf (M1:=S1) (bM (ds:=[[83,101,116],Ct,CB,tT,[55],n0].map D.str) (Zo J<|Zo J<|Zo J<|Zo J<|Zo J<|Zo (Zf J J<|dO hn<|cP _ 0) J) J) r6<|G4 eb h1)<|Zo (Zf J J<|dO (Zj hn _)<|cP _ 1) J) J,Zm _ _ _,(Y1 _ _).trans<|Y1 _ _,by simp[S1];omega,(He h2 h3 (yc h4<|Hn o1.wf aaE) i9<|.inr nofun).t⟩
theorem Ae1(ho:i3 odd=false)(hw:dg odd=true):o4 M S f (eT (jr d nr k5 f v (i5 odd) a4 a6) S):=⟨B S,S++[.L<|[iR,odd,[53]].map D.str],[iR,odd,[53]],b7 tw,Zm _ _ _,Y1 _ _,hl,(uI (xs:=[odd]) (ws:=[[53]]) (c:=1) J J (Hn hw aaE) i9 (λz=>by rw[lQ,ho]at z;cases z)).t⟩
theorem Ae2:o4 M S f (bc (jr d nr k5 f v a7 a4 a6) S):=by
 let⟨b,eb,hb⟩:=fC (v / 8) 2 aaA;have eb:v / 8 % 2=(b:Int):=eb;let⟨e,ee,he⟩:=fC (v / 16) 3 aaA;have ee:v / 16 % 3=(e:Int):=ee;have key:∃X,[fV,iC][b]?=O X/\cQ X fj=O 0/\¬X=iR:=by
  match b,hb with
  |0,_=>exact⟨_,rfl,aaE⟩|1,_=>exact⟨_,rfl,aaE⟩
 have Ae3:∃Y,[[],[49],fV][e]?=O Y/\dg Y=true/\v4 [Y] 0:=by
  match e,he with
  |0,_=>exact⟨_,rfl,aaE,Ds (x:=[]) (yc aaE yd) aaA Ye aaE⟩|1,_=>exact⟨_,rfl,aaE,GF (ts:=[.num 1]) (λt ht=>by rw[Yx.mp ht];show(1:Int).natAbs<10^60;decide) aaA aaA⟩|2,_=>exact⟨_,rfl,aaE,Ds (x:=fV) (yc aaE yd) aaA Ye aaE⟩
 let⟨X,h1,h2,h3⟩:=key;let⟨Y,g1,g2,g3⟩:=Ae3
 let S1:=S++[MO.L<|[fV,iC].map D.str]
 let S2:=S1++[MO.L<|[[],[49],fV].map D.str]
 refine⟨B S2,S2++[.L<|[X,Y].map D.str],[X,Y],b7<|bM (ds:=[X,Y].map D.str) (Zo (Zf (M1:=S1) (bM (ds:=[fV,iC].map D.str) J J) r6<|G4 eb h1)<|Zo (Zf (M1:=S2) (bM (ds:=[[],[49],fV].map D.str) J J) r6<|G4 ee g1) J) J,Zm _ _ _,((Y1 _ _).trans<|Y1 _ _).trans<|Y1 _ _,by simp[S2,S1];omega,(uI (xs:=[]) (ws:=[Y]) h2 (by rw[d4 h3];rfl) (yc g2 yd) i9 λ_=>g3).t⟩
end
def RG{c:Int}(h:c≠0):v4 [] c:=GF (ts:=[]) nofun aaA λz=>h z.symm
def HA:(Sm.num 5).fit:=by show(5:Int).natAbs<10^60;decide
def RJ{c:Int}(hk:cQ h fj=O c)(hc:c≠0)(hn:¬h=iR):jW f [h]:=uI (xs:=[]) (ws:=[]) hk (by rw[d4 hn];rfl) yd aaA λ_=>RG hc
def Zvl:jW f [iR]:=⟨RD<|.inl nofun,yc aaE yd,aaA,su (b:=1) (c:=1) J J aaA nofun λ_=>RG aaA,λ_=>.inl ⟨iR,[],rfl,aaA⟩⟩
def sW:Nat->List d6->c9
 |_,[]=>[]|n,_::L=>.ref n::sW (n+1) L
theorem Znq:∀(L:List d6) (n k:Nat) (ws:d6),L[k]?=O ws->(sW n L)[k]?=My (n+k)
 |[],_,_,_,h=>nomatch h|_::L,n,0,_,_=>rfl|_::L,n,k+1,ws,h=>by show(sW (n+1) L)[k]?=_;rw[Znq L (n+1) k ws h,show n+1+k=n+(k+1)by omega]
def Zna{L:List d6}{k:Nat}{i:Int}(e:i=(k:Int))(h:L[k]?=O ws):∃n,Zn (.ref<|B<|S++L.map λw=>MO.L<|w.map D.str) (.int i) ((S++L.map λw=>MO.L<|w.map D.str)++[.L<|sW (B S) L])= .ok (.ref n) ((S++L.map λw=>MO.L<|w.map D.str)++[.L<|sW (B S) L])/\((S++L.map λw=>MO.L<|w.map D.str)++[MO.L<|sW (B S) L])[n]?=O (.L<|ws.map D.str)/\S.length<=n:=by refine⟨B S+k,dO (Zm _ _ _) (by rw[e,cP];exact Znq L _ k ws h),Zj ?_ _,iG _ _⟩;rw[qK,jg,h];rfl
def sX{h:d_}{es:c9}(h1:g env S= .ok ds S)(hl:decide (B ds<=100)=true)(h2:h env (S++[.L ds])= .ok es S'):Za (Zz g) h env S= .ok (.ref (B S)::es) S':=Zo (bM h1 hl) h2
section
variable {M S:b3} {d nr k5:Nat} {f:Bool} {v:Int} {n0 n1:b9} {rn sm:d6} {odd:b9} {a4 a6:Option D}
variable (hl:B M<=B S)
include hl
theorem Ae4(hn:S[nr]?=O (.L<|(n0::n1::rn).map D.str))(o0:b_ n0):o4 M S f (aw (jr d nr k5 f v a7 a4 a6) S):=by
 let⟨b,eb,hb⟩:=fC (v / 8) 7 aaA;have eb:v / 8 % 7=(b:Int):=eb
 let L:List d6:=[[sI],[iR],[iR,n0],[nH],[nH,[53]],[jd],[qe]]
 have key:∃ws,L[b]?=O ws/\jW f ws:=by
  match b,hb with
  |0,_=>exact⟨_,rfl,RJ (c:=1) J aaA aaA⟩|1,_=>exact⟨_,rfl,Zvl⟩|2,_=>exact⟨_,rfl,uI (xs:=[n0]) (ws:=[]) (c:=1) J J (yc o0.wf yd) i9 λ_=>RG aaA⟩|3,_=>exact⟨_,rfl,RJ (c:=2) J aaA aaA⟩
  |4,_=>exact⟨_,rfl,uI (xs:=[]) (ws:=[[53]]) (c:=2) J J (yc aaE yd) aaA λ_=>GF (ts:=[.num 5]) (λt ht=>by rw[Yx.mp ht];exact HA) aaA aaA⟩|5,_=>exact⟨_,rfl,RJ (c:=1) J aaA aaA⟩|6,_=>exact⟨_,rfl,RJ (c:=1) J aaA aaA⟩
 let⟨ws,h1,h2⟩:=key;let⟨n,p1,p2,p3⟩:=Zna (S:=S) (L:=L) eb h1;refine⟨n,_,ws,b7<|Zf (M1:=(S++L.map λw=>MO.L<|w.map D.str)++[.L<|sW (B S) L]) (bM (ds:=sW (B S) L) ?_ J) r6 p1,p2,(Y1 _ _).trans<|Y1 _ _,Yi hl p3,h2.t⟩;refine(sX J J<|sX J J<|sX (ds:=[iR,n0].map D.str) (Zo J<|Zo (Zf J J<|dO (Zj (Zj hn _) _)<|cP _ 0) J) J<|sX J J<|sX J J<|sX J J<|sX J J J).trans ?_;simp[L,sW]
theorem Ae5:o4 M S f (av (jr d nr k5 f v a7 a4 a6) S):=by
 let⟨b,eb,hb⟩:=fC (v / 8) 5 aaA;have eb:v / 8 % 5=(b:Int):=eb
 let L:List d6:=[[[],sI,[53]],[sI,[53],[]],[sI,[],[53]],[[],[]],[[32,116,101,108,108],[53]]]
 have e0:jW f [[],sI,[53]]:=He aaE aaA aaE aaA<|.inr nofun;have key:∃ws,L[b]?=O ws/\v7 f ws:=by
  match b,hb with
  |0,_=>exact⟨_,rfl,e0.t⟩|1,_=>exact⟨_,rfl,(uI (xs:=[]) (ws:=[[53],[]]) (c:=1) J J aaE aaA λ_=>Ds (x:=[]) aaE aaA aaA aaE).t⟩|2,_=>exact⟨_,rfl,(uI (xs:=[]) (ws:=[[],[53]]) (c:=1) J J aaE aaA λ_=>Ds (x:=[]) aaE aaA aaA aaE).t⟩|3,_=>exact⟨_,rfl,(He (r:=[[]]) aaE aaA aaE aaA<|.inr nofun).t⟩
  |4,_=>exact⟨_,rfl,aaA,aaA,_,aaE,e0⟩
 let⟨ws,h1,h2⟩:=key;let⟨n,p1,p2,p3⟩:=Zna (S:=S) (L:=L) eb h1;refine⟨n,_,ws,b7<|Zf (M1:=(S++L.map λw=>MO.L<|w.map D.str)++[.L<|sW (B S) L]) (bM (ds:=sW (B S) L) ?_ J) r6 p1,p2,(Y1 _ _).trans<|Y1 _ _,Yi hl p3,h2⟩;refine(sX J J<|sX J J<|sX J J<|sX J J<|sX J J J).trans ?_;simp[L,sW]
theorem Zz8(hn:S[nr]?=O (.L<|(n0::n1::rn).map D.str))(o0:b_ n0)(o1:b_ n1):o4 M S f (bg (jr d nr k5 f v a7 a4 a6) S):=by
 let⟨b,eb,hb⟩:=fC (v / 8) 3 aaA;have eb:v / 8 % 3=(b:Int):=eb;have s5:bL (.int 5)=[53]:=by decide +kernel
 have w3:∀{X:b9},dg X=true->∀w∈[[53],n0,X],dg w=true:=λh=>yc aaE<|Hn o0.wf h;have key:∃X,[[53],n1,nH][b]?=O X/\jW f (nH::([]++[[53],n0,X])):=by
  match b,hb with
  | 0,_=>exact⟨_,rfl,uI (c:=2) J J (w3 aaE) i9 λ_=>GF (ts:=[.num 5,.eQ n0,.num 5]) (λt ht=>by simp only[Yo,rm,or_false]at ht;rcases ht with e|e|e<;>(rw[e];first|exact HA|exact o0)) (by simp[bN,Sm.flat]) i9⟩
  | 1,_=>exact⟨_,rfl,uI (c:=2) J J (w3 o1.wf) i9 λ_=>GF (ts:=[.num 5,.eQ n0,.eQ n1]) (λt ht=>by simp only[Yo,rm,or_false]at ht;rcases ht with e|e|e<;>(rw[e];first|exact HA|exact o0|exact o1)) (by simp[bN,Sm.flat]) i9⟩
  |2,_=>exact⟨_,rfl,uI (c:=2) J J (w3 aaE) i9 λ_=>Ds (x:=nH) (w3 aaE) i9 i9 aaE⟩
 let⟨X,h1,h2⟩:=key
 let S1:=S++[MO.L<|[[53],n1,nH].map D.str]
 exact⟨B S1,S1++[.L<|[nH,[53],n0,X].map D.str],[nH,[53],n0,X],b7<|bM (ds:=[nH,[53],n0,X].map D.str) (Zo J<|Zo J<|Zo (Zf J J<|dO hn<|cP _ 0)<|Zo (Zf (M1:=S1) (bM (ds:=[[53],n1,nH].map D.str) (Zo J<|Zo (Zf J J<|dO hn<|cP _ 1) J) J) r6<|G4 eb h1) J) J,Zm _ _ _,(Y1 _ _).trans<|Y1 _ _,by simp[S1];omega,h2.t⟩
theorem Ae6(h5:S[k5]?=O (.L<|sm.map D.str))(hs:∀x∈sm,b_ x)(l7:B sm=7):o4 M S false (cf (jr d nr k5 false v a7 a4 a6) S):=by
 let⟨b,eb,hb⟩:=fC (v / 8) 6 aaA;have eb:v / 8 % 6=(b:Int):=eb
 let S1:=S++[MO.L<|[dw].map D.str]
 let S2:=S1++[MO.L<|(sm.take<|1+b).map D.str]
 have sl:bf (Zb 5) bh fe (jr d nr k5 false v a7 a4 a6) S1= .ok (.ref<|B S1) S2:=by
  refine(oY (a:=Yj) (b:=O ((1+b:Nat):Int)) J J ?_<|Zj h5 _).trans ?_
  .show(e2 Zv px ie (jr d nr k5 false v a7 a4 a6) S1).bind _=_;rw[Zf (M3:=S1) (d:=.int ((1+b:Nat):Int)) J r6 (by rw[oF,eb];congr 2)];rfl
  .rw[Df,<-A_]
 exact⟨B S2,S2++[.L<|(dw::sm.take (1+b)).map D.str],dw::sm.take (1+b),b7<|Zf (M1:=S1) (bM (ds:=[dw].map D.str) J J) sl<|mH (Zj (Zm _ _ []) _) (Zm _ _ []) r0,Zm _ _ _,((Y1 _ _).trans<|Y1 _ _).trans<|Y1 _ _,by simp[S2,S1];omega,(Zm7 (first:=false) (λw hw=>(hs w<|wK hw).wf) r0 nofun).t⟩
end
section
variable {M S:b3} {d nr k5:Nat} {f:Bool} {v:Int} {n0 n1:b9} {rn sm:d6} {odd:b9} {a4 a6:Option D}
def Ae7(hl:B M<=B S)(h5:S[k5]?=O (.L<|sm.map D.str))(hs:∀x∈sm,b_ x)(l7:B sm=7)(ho:i3 odd=false)(hw:dg odd=true):o4 M S f (aE (jr d nr k5 f v (i5 odd) a4 a6) S):=by
 let⟨b,eb,hb⟩:=fC (v / 8) 6 aaA;have eb:v / 8 % 6=(b:Int):=eb
 let S0:=S++[MO.L<|[dw].map D.str]
 let X1:=S0++[MO.L<|([]:d6).map D.str]
 let X2:=X1++[MO.L<|(sm.take 2).map D.str]
 let X3:=X2++[MO.L<|(sm.take 1).map D.str]
 let X4:=X3++[MO.L<|(sm.take 2).map D.str++(sm.take 1).map D.str]
 let X5:=X4++[MO.L<|[odd].map D.str]
 let X6:=X5++[MO.L<|(sm.take 2).map D.str]
 let X7:=X6++[MO.L<|[odd].map D.str]
 let X8:=X7++[MO.L<|(sm.take 2).map D.str++[odd].map D.str]
 let X9:=X8++[MO.L<|[odd].map D.str]
 let Xa:=X9++[MO.L<|(sm.take 2).map D.str]
 let Xb:=Xa++[MO.L<|[odd].map D.str++(sm.take 2).map D.str]
 let ds:c9:=[.ref<|B S0,.ref k5,.ref<|B X3,.ref<|B X4,.ref<|B X7,.ref<|B Xa]
 let Xc:=Xb++[MO.L ds]
 have sl:∀(T:b3) (j:Nat),T[k5]?=O (.L<|sm.map D.str)->bf (Zb 5) bh (aX<|eC<|.int (j:Nat)) (jr d nr k5 f v (i5 odd) a4 a6) T= .ok (.ref<|B T) (T++[.L<|(sm.take j).map D.str]):=λT j h=>by refine(oY (a:=Yj) (b:=O (j:Int)) J J J h).trans ?_;rw[Df,<-A_]
 have lo:∀T:b3,Zz pd (jr d nr k5 f v (i5 odd) a4 a6) T= .ok (.ref<|B T) (T++[.L<|[odd].map D.str]):=λT=>bM J J;have g1:X1[k5]?=O (.L<|sm.map D.str):=Zj (Zj h5 _) _;have g2:X2[k5]?=O (.L<|sm.map D.str):=Zj g1 _;have g5:X5[k5]?=O (.L<|sm.map D.str):=Zj (Zj (Zj g2 _) _) _;have g9:X9[k5]?=O (.L<|sm.map D.str):=Zj (Zj (Zj (Zj g5 _) _) _) _;have z:∀j:Nat,B (sm.take j)<=7:=λj=>by rw[lM];omega
 have z2:=z 2;have z1:=z 1;have a1:e2 Zv lh (bf (Zb 5) bh om) (jr d nr k5 f v (i5 odd) a4 a6) X1= .ok (.ref<|B X3) X4:=Zf (sl X1 2 g1) (sl X2 1 g2) (mH (Zj (Zm _ _ []) _) (Zm _ _ []) (by rw[Ym,Ym];omega));have a2:e2 Zv lh og (jr d nr k5 f v (i5 odd) a4 a6) X5= .ok (.ref<|B X7) X8:=Zf (sl X5 2 g5) (lo X6) (mH (Zj (Zm _ _ []) _) (Zm _ _ []) (by rw[Ym,Ym];show _+1<=_;omega));have a3:e2 Zv og lh (jr d nr k5 f v (i5 odd) a4 a6) X8= .ok (.ref<|B Xa) Xb:=Zf (lo X8) (sl X9 2 g9) (mH (Zj (Zm _ _ []) _) (Zm _ _ []) (by rw[Ym,Ym];show 1+_<=_;omega));have pre:S<+:Xc:=by repeat(first|exact Y1 _ _|refine List.IsPrefix.trans ?_ (Y1 _ _))
 have key:∃(n:Nat) (tk:d6),ds[b]?=My n/\Xc[n]?=O (.L<|tk.map D.str)/\nO tk=false/\(∀w∈tk,dg w=true)/\tk.length<=14:=by
  have wt:∀j,∀w∈sm.take j,dg w=true:=λj w h=>(hs w<|wK h).wf;have wo:∀w∈[odd],dg w=true:=yc hw yd;have wa:∀{x y:d6},(∀w∈x,dg w=true)->(∀w∈y,dg w=true)->∀w∈x++y,dg w=true:=λhx hy w h=>(gF.mp h).elim (hx w)<|hy w
  match b,hb with
  |0,_=>exact⟨B S0,[],rfl,Zj (Zj (Zj (Zj (Zj (Zj (Zj (Zj (Zj (Zj (Zj (Zm _ _ []) _) _) _) _) _) _) _) _) _) _) _,aaE,yd,aaA⟩|1,_=>exact⟨k5,sm,rfl,Zj (Zj (Zj g9 _) _) _,Zst b5,λw h=>(hs w h).wf,b5⟩|2,_=>
   refine⟨B X3,sm.take 2++sm.take 1,rfl,?_,?_,wa (wt 2)<|wt 1,by rw[Yd];omega⟩
   .rw[fX];exact Zj (Zj (Zj (Zj (Zj (Zj (Zj (Zj (Zm _ _ []) _) _) _) _) _) _) _) _
   .match sm,l7 with
    |x::y::r,_=>exact ZqY x y
  |3,_=>exact⟨B X4,[odd],rfl,Zj (Zj (Zj (Zj (Zj (Zj (Zj (Zm _ _ []) _) _) _) _) _) _) _,Hk Ye ho,wo,i9⟩|4,_=>exact⟨B X7,sm.take 2++[odd],rfl,by rw[fX];exact Zj (Zj (Zj (Zj (Zm _ _ []) _) _) _) _,Hk (Y2 _ Ye) ho,wa (wt 2) wo,by rw[Yd];show _+1<=_;omega⟩|5,_=>exact⟨B Xa,[odd]++sm.take 2,rfl,by rw[fX];exact Zj (Zm _ _ []) _,Hk Ye ho,wa wo<|wt 2,by rw[Yd];show 1+_<=_;omega⟩
 let⟨n,tk,k1,k2,k3,Zlz,Zy8⟩:=key;have t0:Xc[B S]?=O (.L<|[dw].map D.str):=Zj (Zj (Zj (Zj (Zj (Zj (Zj (Zj (Zj (Zj (Zj (Zj (Zm _ _ []) _) _) _) _) _) _) _) _) _) _) _) _;refine⟨B Xc,Xc++[.L<|(dw::tk).map D.str],dw::tk,b7 (Zf (M1:=S0) (M2:=Xc) (bM (ds:=[dw].map D.str) J J) (Zf (M1:=Xc) (bM (M':=Xb) (ds:=ds) (Zo tw<|Zo J<|Zo a1<|Zo (lo X4)<|Zo a2<|Zo a3 J) J) r6<|dO (Zm _ _ _)<|by rwa[eb,cP])<|mH t0 k2 (by rw[Ym,Ym];show 1+_<=_;omega)),Zm _ _ _,pre.trans<|Y1 _ _,Yi hl pre.length_le,(Zm7 Zlz b5 λ_=>k3).t⟩
end
abbrev bhZ:S3:=Zt cE ae
def HC{a k:Nat}(h:Zb 4 env S= .ok (.int (a:Int)) S):e2 aN (Zb 4) (eC<|.int (k:Nat)) env S= .ok (.bl<|decide<|a=k) S:=by
 refine Zf h J ?_;by_cases e:a=k
 .rw[j2 e];exact nq (by rw[e])
 .rw[j3 e];exact pK λz=>e<|Bg z
def Ae8{k5:Nat}{v:Int}{n0 n1 odd:b9}{rn sm:d6}{a6:Option D}(hl:B M<=B S)(hn:S[nr]?=O (.L<|(n0::n1::rn).map D.str))(o0:b_ n0)(o1:b_ n1)(h5:S[k5]?=O (.L<|sm.map D.str))(hs:∀x∈sm,b_ x)(l7:B sm=7)(ho:i3 odd=false)(hw:dg odd=true)(ha:0<a)(ha8:a<8):o4 M S f (bhZ (jr d nr k5 f v (i5 odd) (c8 (a:Int)) a6) S):=by
 have st:∀{g:S3} {X:S3} {k:Nat},(a=k->o4 M S f (X (jr d nr k5 f v (i5 odd) (c8 (a:Int)) a6) S))->(¬a=k->o4 M S f (g (jr d nr k5 f v (i5 odd) (c8 (a:Int)) a6) S))->o4 M S f (Zt (aG (e2 aN (Zb 4)<|eC<|.int (k:Nat)) X aW) g (jr d nr k5 f v (i5 odd) (c8 (a:Int)) a6) S):=λ{g X k} h1 h2=>by
  have q:=HC (a:=a) (k:=k) (env:=jr d nr k5 f v (i5 odd) (c8 (a:Int)) a6) (S:=S) J;by_cases e:a=k
  .rw[j2 e]at q;let⟨n,S',ws,e1,r⟩:=h1 e;exact⟨n,S',ws,iK<|(cO q).trans e1,r⟩
  .rw[j3 e]at q;rw[Zi<|cZ q];exact h2 e
 refine st (k:=1) (λ_=>Ae1 hl ho hw) λq1=>st (k:=2) (λ_=>Ae2 hl) λq2=>st (k:=3) (λ_=>Ae7 hl h5 hs l7 ho hw) λq3=>st (k:=4) (λ_=>Ae4 hl hn o0) λq4=>st (k:=5) (λ_=>Ae5 hl) λq5=>?_;have q:=HC (a:=a) (k:=6) (env:=jr d nr k5 f v (i5 odd) (c8 (a:Int)) a6) (S:=S) J;by_cases e:a=6
 .rw[j2 e]at q;let⟨n,S',ws,e1,r⟩:=Zz8 (f:=f) (d:=d) (k5:=k5) (v:=v) (a4:=c8 (a:Int)) (a6:=a6) (a7:=i5 odd) hl hn o0 o1;exact⟨n,S',ws,iK<|(cO<|pM q).trans e1,r⟩
 .rw[j3 e]at q;cases f with
  |true=>let⟨n,S',ws,e1,r⟩:=Zz8 (f:=true) (d:=d) (k5:=k5) (v:=v) (a4:=c8 (a:Int)) (a6:=a6) (a7:=i5 odd) hl hn o0 o1;exact⟨n,S',ws,iK<|(cO (M':=S)<|(iZ q).trans J).trans e1,r⟩|false=>let⟨n,S',ws,e1,r⟩:=Ae6 (d:=d) (nr:=nr) (v:=v) (a4:=c8 (a:Int)) (a6:=a6) (a7:=i5 odd) hl h5 hs l7;exact⟨n,S',ws,(Zi<|cZ (M':=S)<|(iZ q).trans J).trans e1,r⟩
section
variable {cs:List Int} {c d:Nat} {M:b3} {ao:Nat}
def Zlk{o:O3}(hk:B M<=B S)(h:o4 M S f o):∃(n:Nat) (S':b3) (ws:d6),o= .rt (.ref n) S'/\gj M (.ref n) S'= .ok (.ref n) S'/\S'[n]?=O (.L<|ws.map D.str)/\S<+:S'/\v7 f ws:=by let⟨n,S',ws,h1,h2,h3,h4,h5⟩:=h;exact⟨n,S',ws,h1,by rw[gj,show below (B M) (.ref n)=false from j3 (Va.mpr h4)];rfl,h2,h3,h5⟩
def Zoj(dk:cW cs c d ao M)(r9:M[nr]?=O (.L<|names.map D.str))(nd:nr≠d)(hn:B names=12)(qV:∀x∈names,b_ x)(ha:ao<1000000):
  ∃(n:Nat) (S:b3) (ws:d6),J6 [.ref d,.ref nr,.bl f] M= .ok (.ref n) S/\S[n]?=O (.L<|ws.map D.str)/\v7 f ws/\cW cs c d (ao+1) S/\Kp d M S:=by
 let⟨v,S1,hv,D1,nP,l1⟩:=dk.draw ha;have t4:S1[nr]?=O (.L<|names.map D.str):=nP.get r9 nd;let⟨a,ea,ha8⟩:=fC v 8 aaA;have ea:v % 8=(a:Int):=ea
 let g:Nat->b9:=λk=>names.getD ((v / 8+k) % 12).toNat []
 have gx:∀k:Nat,∃b:Nat,(v / 8+k) % 12=(b:Int)/\b<12/\names[b]?=O (g k):=λk=>by let⟨b,eb,hb⟩:=fC (v / 8+k) 12 aaA;have eb:(v / 8+k) % 12=(b:Int):=eb;refine⟨b,eb,hb,?_⟩;show _=O (names.getD ((v / 8+k) % 12).toNat []);rw[eb,u6,HW,Y0 b5];rfl
 let sm:=(jO 7).map g
 have hs:∀x∈sm,b_ x:=λx hx=>by let⟨k,_,rfl⟩:=kZ.mp hx;let⟨b,_,_,gb⟩:=gx k;exact qV _<|Ay gb
 let E1:bO:=[My d,My nr,O<|.bl f,c8 v,c8 (a:Int),Yj,Yj,Yj]
 have lc:gU (ud qa) 1 (cV 8) [] eR E1 S1= .ok (.ref<|B S1) (S1++[.L<|(jO 7).map λk=>D.str<|g k]):=by
  refine Fh (enc:=λ(k:Nat)=>D.int<|0+(k:Int)) (h:=λk=>D.str<|g k) (as:=jO 7) (M1:=S1) (lock:=Yj) (λe=>∃x,e=E1++[x]) ?_ nofun ⟨_,rfl⟩ ?_ aaA
  .have h7:eC (.int 7) E1 S1= .ok (.int ((7:Nat):Int)) S1:=rfl;simp only[ud,h7,R3.bind];simp[lW]
  .intro k hk env ⟨x,e⟩;subst e;let⟨b,eb,Af1,hgb⟩:=gx k;refine⟨_,rfl,⟨_,rfl⟩,λz=>Zf J (Zf (Zf vE J J) J<|cg aaA)<|dO (Zj t4 _) ?_⟩;rw[Ik,eb,cP,jg,hgb];rfl
 have esm:(jO 7).map (λk=>D.str<|g k)=sm.map D.str:=by rw[pC];rfl
 rw[esm]at lc
 let S2:=S1++[MO.L<|sm.map D.str]
 let S3:=S2++[MO.L<|dG.map D.str]
 have ua:S2[nr]?=O (.L<|names.map D.str):=Zj t4 _;have h52:S2[B S1]?=O (.L<|sm.map D.str):=Zm _ _ _;have m1:B M<=B S1:=lR l1.symm;have m2:B M<=B S2:=Yi m1 (by simp[S2]);obtain⟨n0,n1,rn,Dt⟩:∃n0 n1 rn,names=n0::n1::rn:=by
  match names,hn with
  |n0::n1::rn,_=>exact⟨n0,n1,rn,rfl⟩
 have o0:b_ n0:=qV _ (by rw[Dt];exact Ye);have o1:b_ n1:=qV _ (by rw[Dt];exact Yf _ Ye);have fin:∀{T:b3} {o:O3},S2<+:T->B M<=B T->o4 M T f o->J5 [My d,My nr,O<|.bl f,Yj,Yj,Yj,Yj,Yj] M=o->∃(n:Nat) (S:b3) (ws:d6),J6 [.ref d,.ref nr,.bl f] M= .ok (.ref n) S/\S[n]?=O (.L<|ws.map D.str)/\v7 f ws/\cW cs c d (ao+1) S/\Kp d M S:=λ{T o} hT hm hg ho=>by let⟨n,S',ws,h1,h2,h3,h4,h5⟩:=Zlk hm hg;let⟨G,rfl⟩:=hT.trans h4;exact⟨n,_,ws,(jT (env:=[My d,My nr,O<|.bl f,Yj,Yj,Yj,Yj,Yj])<|ho.trans h1).trans h2,h3,h5,(D1.app _).app _,(nP.trans<|Kp.app d _ _).trans<|Kp.app d _ _⟩
 have go:∀{o:O3},(Zt aI<|Zt ay aa) (jr d nr (B S1) f v Yj (c8 (a:Int)) Yj) S2=o->J5 [My d,My nr,O<|.bl f,Yj,Yj,Yj,Yj,Yj] M=o:=λh=>by
  unfold J5;exact(Zi<|Zq<|dD J hv).trans ((Zi<|Zq<|Zf J J<|(cg aaA).trans<|by rw[ea]).trans<|(Zi<|Zq lc).trans h)
 have q:=HC (a:=a) (k:=0) (env:=jr d nr (B S1) f v Yj (c8 (a:Int)) Yj) (S:=S2) J;by_cases e:a=0
 .rw[j2 e]at q;have hg:=Ae0 (f:=f) (d:=d) (k5:=B S1) (v:=v) (a4:=c8 (a:Int)) (a6:=Yj) (a7:=Yj) m2 (by rwa[<-Dt]) o0 o1;refine fin (Lo _) m2 hg<|go ?_;let⟨n,S',ws,e1,r⟩:=hg;rw[e1];exact iK<|(cO q).trans e1
 .rw[j3 e]at q;let⟨w,nw,hw⟩:=Zlm<|v / 16;let⟨b,eb,hb⟩:=fC (v / 16) 12 aaA;have eb:v / 16 % 12=(b:Int):=eb;let⟨b2,Dq,hb2⟩:=fC (v / 8) 2 aaA;have Dq:v / 8 % 2=(b2:Int):=Dq;have Du:b<B dG:=hb
  let ow:=dG[b]'(Du)
  have how:i3 ow=false/\dg ow=true:=by
   have:∀x∈dG,i3 x=false/\dg x=true:=by decide +kernel
   exact this _<|tO Du
  have odd:∃od,[ow,w][b2]?=O od/\i3 od=false/\dg od=true:=by
   match b2,hb2 with
   |0,_=>exact⟨_,rfl,how⟩|1,_=>exact⟨_,rfl,nw.nm,nw.wf⟩
  let⟨od,e1,C7,e3⟩:=odd
  let S4:=S3++[MO.L<|[ow,w].map D.str]
  have m4:B M<=B S4:=Yi m2 (by simp[S4,S3]);have hg:=Ae8 (M:=M) (S:=S4) (d:=d) (f:=f) (v:=v) (a:=a) (a6:=My<|B S2) m4 (by rw[<-Dt];exact Zj (Zj ua _) _) o0 o1 (Zj (Zj h52 _) _) hs (by simp[sm]) C7 e3 (LJ e) ha8;refine fin ((Y1 _ _).trans<|Y1 _ _) m4 hg<|go ?_;refine(Zi<|cZ q).trans ((Zi<|Zq (d:=.ref<|B S2) (M':=S3)<|bM (ds:=dG.map D.str) J J).trans ?_);refine(Zi<|Zq (d:=.str od) (M':=S4)<|Zf (M1:=S4) (bM (M':=S3) (ds:=[ow,w].map D.str) (Zo (Zf J r6<|dO (Zm S2 _ []) (d:=.str ow) (by rw[eb,cP,jg,Y0 Du];rfl))<|Zo (dD vE<|hw _) J) J) r6<|G4 Dq e1).trans ?_;rfl
end
structure v8(h:b9)(xs:d6)(t:Sm):Prop where
 sm:cQ h fj=O 1
 nx:B xs=if h=iR then 1 else 0
 xl:B xs<=1
 ft:t.fit
 le:B t.flat<=9
 ok:gJ ⟨h,xs,[t]⟩
section
variable {h:b9} {xs:d6} {t:Sm} (H:v8 h xs t) {f:Bool}
include H
theorem v8.words:(Rw.mk h xs [t]).words=h::(xs++t.flat.map bL):=by show h::(xs++(bN [t]).map bL)=_;rw[show bN [t]=t.flat by simp[bN]]
theorem v8.wf:∀w∈xs++t.flat.map bL,dg w=true:=λw hw=>by let⟨a,b,c⟩:=Lk H.ok w (by rw[H.words];exact Yf _ hw);exact Hb (u0 a) b c
theorem v8.put(wf:∀w∈ws,dg w=true)(l:B ws<=18)(hs:v4 ws 1):jW f (h::(xs++ws)):=uI H.sm H.nx (λw hw=>(gF.mp hw).elim (λz=>H.wf w<|pB _ z)<|wf w) (by have:=H.xl;rw[Yd];omega) λ_=>hs
theorem v8.wt:∀w∈t.flat.map bL,dg w=true:=λw hw=>H.wf w<|Y2 _ hw
theorem v8.cut:jW f (h::(xs++(t.flat.map bL).dropLast)):=by
 have l:=H.le;refine H.put (λw hw=>H.wt w<|Uu _ hw) (by rw[Us,Ym];omega) ?_;rw[<-KW];by_cases z:t.flat.dropLast=[]
 .rw[z];exact RG aaA
 .let⟨w,r,e⟩:=Gy t;have ne:t.flat≠[]:=by rw[e];exact nofun
  exact ig (λw hw=>Di t H.ft w<|Uu _ hw) (by rw[Us];omega)<|Zvw (Dh t H.ft) (Kn ne).symm z nofun
theorem v8.more{x:b9}(hx:x=[55]\/x=jk\/x=[]\/b_ x):jW f (h::(xs++(t.flat.map bL++[x]))):=by
 have l:=H.le;have Zng:dg x=true:=by
  rcases hx with e|e|e|e
  .rw[e];decide +kernel
  .rw[e];decide +kernel
  .rw[e];decide +kernel
  .exact e.wf
 have wf:∀w∈t.flat.map bL++[x],dg w=true:=λw hw=>(gF.mp hw).elim (H.wt w) λz=>by rwa[Yx.mp z]
 have ll:B (t.flat.map bL++[x])<=18:=by rw[Yd,Ym];show _+1<=_;omega
 have two:∀s:Sm,s.fit->B s.flat=1->v4 (t.flat.map bL++s.flat.map bL) 1:=λs hs ls=>by
  rw[<-fX,show t.flat++s.flat=bN [t,s]by simp[bN]];refine GF (λq hq=>?_) (by simp[bN];omega) i9;rcases Yo.mp hq with e|e
  .rw[e];exact H.ft
  .rwa[Yx.mp e]
 refine H.put wf ll ?_;rcases hx with e|e|e|e
 .rw[e];exact two (.num 7) (by show(7:Int).natAbs<10^60;decide) J
 .rw[e,show[jk]=[D.str jk].map bL from rfl,<-fX];exact ig (λw hw=>(gF.mp hw).elim (Di t H.ft w) λz=>by rw[Yx.mp z];exact .op _ aaE) (by rw[Yd];show _+1<=_;omega)<|ZrL<|Dh t H.ft
 .exact Ds (x:=x) wf (Yi ll aaA) (Y2 _ Ye) (by rw[e];decide +kernel)
 .exact two (.eQ x) e J
theorem v8.swap{x:b9}(hx:Hd x)(j:Nat):jW f (h::(xs++((t.flat.map bL).take j++[x]++(t.flat.map bL).drop (j+1)))):=by
 have l:=H.le;have wf:∀w∈(t.flat.map bL).take j++[x]++(t.flat.map bL).drop (j+1),dg w=true:=λw hw=>by
  rcases gF.mp hw with z|z
  .rcases gF.mp z with z|z
   .exact H.wt w<|wK z
   .rw[Yx.mp z];exact hx.wf
  .exact H.wt w<|Uw z
 have ll:B ((t.flat.map bL).take j++[x]++(t.flat.map bL).drop (j+1))<=18:=by simp only[Yd,lM,Az,Ym,Y8];omega
 exact H.put wf ll<|Ds (x:=x) wf (Yi ll aaA) (pB _<|Y2 _ Ye) hx.ok
end
section
variable {M S:b3} {d nr n4 a j:Nat} {f:Bool} {v:Int} {n0:b9} {rn:d6} {h:b9} {xs:d6} {t:Sm} {a3 a5:Option D}
abbrev bsZ:S3:=Zt eD ax
def Ae9(hl:B M<=B S)(H:v8 h xs t)(hn:S[nr]?=O (.L<|(n0::rn).map D.str))(o0:b_ n0)(h4:S[n4]?=O (.L<|(h::(xs++t.flat.map bL)).map D.str)):o4 M S f (bsZ [My d,My nr,c8 v,a3,My n4,a5,c8 ((1+B xs+j:Nat):Int),c8 (a:Int)] S):=by
 have l:=H.le;have xl:=H.xl
 let E:bO:=[My d,My nr,c8 v,a3,My n4,a5,c8 ((1+B xs+j:Nat):Int),c8 (a:Int)]
 have wl:B ((h::(xs++t.flat.map bL)).map D.str)<=11:=by rw[Ym,Yp,Yd,Ym];omega
 by_cases e0:a=0
 .refine⟨B S,S++[.L<|(h::(xs++(t.flat.map bL).dropLast)).map D.str],_,iK ((cO (M':=S)<|Zf J J<|nq (by rw[e0];rfl)).trans<|b7<|(oY (a:=Yj) (b:=O<|-1) J J J h4).trans ?_),Zm _ _ _,Y1 _ _,hl,H.cut.t⟩;rw[ZsE,<-KW];let⟨w,r,e⟩:=Gy t;rw[List.dropLast_cons_of_ne_nil (by rw[e];simp),List.dropLast_append_of_ne_nil (by rw[e];simp)]
 have k0:=cZ (f:=aM ka) (env:=E) (M':=S) (M:=S)<|Zf (op:=aN) (f:=Zb 7) (g:=eC<|.int 0) J J<|pK λz=>e0<|Bg z;by_cases e1:a=1
 .let⟨b,eb,hb⟩:=fC (v / 20) 4 aaA;have eb:v / 20 % 4=(b:Int):=eb;have key:∃x,[[55],jk,[],n0][b]?=O x/\(x=[55]\/x=jk\/x=[]\/b_ x):=by
   match b,hb with
   |0,_=>exact⟨_,rfl,.inl J⟩|1,_=>exact⟨_,rfl,.inr<|.inl J⟩|2,_=>exact⟨_,rfl,.inr<|.inr<|.inl J⟩|3,_=>exact⟨_,rfl,.inr<|.inr<|.inr o0⟩
  let⟨x,h1,h2⟩:=key
  let S1:=S++[MO.L<|[[55],jk,[],n0].map D.str]
  let S2:=S1++[MO.L<|[x].map D.str]
  refine⟨B S2,S2++[.L<|(h::(xs++(t.flat.map bL++[x]))).map D.str],_,(Zi k0).trans (iK<|(cO (M':=S)<|Zf J J<|nq (by rw[e1];rfl)).trans<|b7<|(Zf J (bM (ds:=[x].map D.str) (M':=S1) (Zo (Zf (M1:=S1) (bM (ds:=[[55],jk,[],n0].map D.str) (Zo J<|Zo J<|Zo J<|Zo (Zf J J<|dO hn<|cP _ 0) J) J) r6<|G4 eb h1) J) J)<|mH (Zj (Zj h4 _) _) (Zm _ _ []) (by have:B ([x].map D.str)=1:=rfl;omega)).trans ?_),Zm _ _ _,((Y1 _ _).trans<|Y1 _ _).trans<|Y1 _ _,by simp[S2,S1];omega,(H.more h2).t⟩;rw[show(h::(xs++t.flat.map bL)).map D.str++[x].map D.str=(h::(xs++(t.flat.map bL++[x]))).map D.str by simp]
 have k1:=cZ (f:=aM bu) (env:=E) (M':=S) (M:=S)<|Zf (op:=aN) (f:=Zb 7) (g:=eC<|.int 1) J J<|pK λz=>e1<|Bg z;let⟨w,nw,hw⟩:=Zlm<|v / 20
 let W:=h::(xs++t.flat.map bL)
 let S1:=S++[MO.L<|(W.take<|1+B xs+j).map D.str]
 let S2:=S1++[MO.L<|[w].map D.str]
 let S3:=S2++[MO.L<|(W.take<|1+B xs+j).map D.str++[w].map D.str]
 let S4:=S3++[MO.L<|(W.drop<|1+B xs+j+1).map D.str]
 have ew:W.take (1+B xs+j)++[w]++W.drop (1+B xs+j+1)=h::(xs++((t.flat.map bL).take j++[w]++(t.flat.map bL).drop (j+1))):=by show(h::(xs++t.flat.map bL)).take (1+B xs+j)++[w]++(h::(xs++t.flat.map bL)).drop (1+B xs+j+1)=_;rw[show 1+B xs+j=B xs+j+1 by omega,HY,show B xs+j+1+1=(B xs+(j+1))+1 by omega,NP,List.take_length_add_append,List.drop_length_add_append];simp
 have s1:bf (Zb 4) bh (aX<|Zb 6) E S= .ok (.ref<|B S) S1:=by refine(oY (a:=Yj) (b:=O ((1+B xs+j:Nat):Int)) J J J h4).trans ?_;rw[Df,<-A_]
 have s2:bf (Zb 4) (aX<|e2 Zv (Zb 6) px) bh E S3= .ok (.ref<|B S3) S4:=by refine(oY (a:=O ((1+B xs+j+1:Nat):Int)) (b:=Yj) J J J<|Zj (Zj (Zj h4 _) _) _).trans ?_;rw[vY,<-LD]
 have z1:B ((W.take<|1+B xs+j).map D.str)<=11:=by rw[Ym]at wl |-;exact Yi (Uv _ _) wl
 have z2:B ((W.drop<|1+B xs+j+1).map D.str)<=11:=by rw[Ym]at wl |-;rw[Az];exact Yi (U_ _ _) wl
 refine⟨B S4,S4++[.L<|(h::(xs++((t.flat.map bL).take j++[w]++(t.flat.map bL).drop (j+1)))).map D.str],_,(Zi k0).trans ((Zi k1).trans<|b7<|(Zf (M1:=S3) (Zf s1 (bM (ds:=[w].map D.str) (M':=S1) (Zo (dD vE<|hw _) J) J)<|mH (Zj (Zm _ _ []) _) (Zm _ _ []) (by have:B ([w].map D.str)=1:=rfl;omega)) s2<|mH (Zj (Zm _ _ []) _) (Zm _ _ []) (by rw[Yd];have:B ([w].map D.str)=1:=rfl;omega)).trans ?_),Zm _ _ _,(((Y1 _ _).trans<|Y1 _ _).trans<|Y1 _ _).trans<|(Y1 _ _).trans<|Y1 _ _,by simp[S4,S3,S2,S1];omega,(H.swap nw j).t⟩;rw[<-fX,<-fX,ew]
end
section
variable {cs:List Int} {c d:Nat} {M:b3} {ao:Nat}
def ZqD(dk:cW cs c d ao M)(r9:M[nr]?=O (.L<|names.map D.str))(nd:nr≠d)(hn:B names=12)(qV:∀x∈names,b_ x)(ha:ao+70<1000000):
  ∃(n:Nat) (S:b3) (ws:d6) (at':Nat),Q4 [.ref d,.ref nr] M= .ok (.ref n) S/\S[n]?=O (.L<|ws.map D.str)/\v7 f ws/\cW cs c d at' S/\Kp d M S/\at'<=ao+61:=by
 let⟨v,S1,hv,D1,nP,l1⟩:=dk.draw b5;have t4:S1[nr]?=O (.L<|names.map D.str):=nP.get r9 nd;let⟨a,ea,ha3⟩:=fC v 3 aaA;have ea:v % 3=(a:Int):=ea;let⟨b,eb,hb⟩:=fC (v / 3) 12 aaA;have eb:v / 3 % 12=(b:Int):=eb;have Du:b<B names:=by omega
 let x:=names[b]'(Du)
 have nop:b_ x:=qV _<|tO Du
 let ds:c9:=[.U [.str sI],.U [.str qe],.U [.str iR,.str x]]
 let S2:=S1++[MO.L ds]
 have key:∃h xs,ds[a]?=O (.U<|D.str h::xs.map D.str)/\∀t:Sm,t.fit->t.dp<=6->B t.flat<=9->v8 h xs t:=by
  match a,ha3 with
  |0,_=>exact⟨sI,[],rfl,λt f1 f2 f3=>⟨rfl,rfl,aaA,f1,f3,Ln J aaA f1 f2 b5⟩⟩|1,_=>exact⟨qe,[],rfl,λt f1 f2 f3=>⟨rfl,rfl,aaA,f1,f3,Ln J aaA f1 f2 b5⟩⟩|2,_=>exact⟨iR,[x],rfl,λt f1 f2 f3=>⟨rfl,rfl,i9,f1,f3,ZtL nop f1 f2 b5⟩⟩
 let⟨h,xs,h1,h2⟩:=key;let⟨t,S3,at3,f1,f2,f3,f4,D3⟩:=Ru (M:=S2) (most:=9) (deep:=6) (D1.app _) (Zj t4 _) nd hn qV aaA aaA aaA b5;have H:=h2 t f1 f2 f3
 let r:Rw:=⟨h,xs,[t]⟩
 let W:=h::(xs++t.flat.map bL)
 have eW:r.words=W:=H.words
 let S4:=S3++[MO.L<|W.map D.str]
 have hw1:∀w∈r.words,B w<=61:=λw hw=>(Lk H.ok w hw).1;have tl:B (glue [32] r.words)<=900000:=by have:=(Dg 32 61 r.words hw1).2;have q:B r.words<=60:=F1 H.ok;omega
 have sp:pO (glue [32] r.words) [32]=r.words:=E4 32 _ (by rw[eW];exact nofun) λw hw=>(Lk H.ok w hw).2.1;obtain⟨n0,rn,Dt⟩:∃n0 rn,names=n0::rn:=by
  match names,hn with
  |n0::rn,_=>exact⟨n0,rn,rfl⟩
 have o0:b_ n0:=qV _ (by rw[Dt];exact Ye);have hn3:S3[nr]?=O (.L<|names.map D.str):=D3.kp.get (Zj t4 _) nd;have rV:0<B t.flat:=by let⟨w,q,e⟩:=Gy t;rw[e];simp
 let⟨j,ej,hj⟩:=fC (v / 36) (B t.flat) rV;let⟨a7,HE,ha7⟩:=fC (v / 5) 4 aaA;have HE:v / 5 % 4=(a7:Int):=HE;have m4:B M<=B S4:=by
  have q1:=D3.kp.len;have q2:B S2=B S1+1:=by simp[S2]
  have q3:B S4=B S3+1:=by simp[S4]
  omega
 have g4:S4[B S3]?=O (.L<|W.map D.str):=Zm _ _ _;have wl:B (W.map D.str)=1+B xs+B t.flat:=by rw[Ym];show(h::(xs++t.flat.map bL)).length=_;rw[Yp,Yd,Ym];omega
 have hg:=Ae9 (M:=M) (S:=S4) (d:=d) (n4:=B S3) (a:=a7) (j:=j) (f:=f) (v:=v) (a3:=O<|.U<|D.str h::xs.map D.str) (a5:=c8 ((1+B xs:Nat):Int)) m4 H (by rw[<-Dt];exact Zj hn3 _) o0 g4;let⟨n,S',ws,h5,h6,h7,h8,h9⟩:=Zlk m4 hg;let⟨G,rfl⟩:=h8;refine⟨n,_,ws,at3,(jT (env:=[My d,My nr,Yj,Yj,Yj,Yj,Yj,Yj]) (?_:_=O3.rt (.ref n) (S4++G))).trans h6,h7,h9,(D3.dk.app _).app _,(((nP.trans<|Kp.app d _ _).trans D3.kp).trans<|Kp.app d _ _).trans<|Kp.app d _ _,by have:=D3.le;omega⟩;rw[<-h5];unfold Z_;refine(Zi<|Zq<|dD J hv).trans ?_;refine(Zi<|Zq (d:=.U<|D.str h::xs.map D.str) (M':=S2)<|Zf (M1:=S2) (bM (ds:=ds) (Zo (qL J J)<|Zo (qL J J)<|Zo (qL (Zo J<|Zo (Zf J r6<|dO t4 (d:=.str x) (by rw[eb,cP,jg,Y0 Du];rfl)) J) J) J) J) AR<|dO (Zm _ _ _)<|by rwa[ea,cP]).trans ?_;refine(Zi<|Zq (d:=.ref<|B S3) (M':=S4)<|Lg (M1:=S3) (a:=.str<|glue [32] r.words) (dD (Zf (d:=.U r.n5) J (qL (Zo (Fz J J J J f4) J) J) ?_)<|F4 H.ok _) J yA<|(FH tl).trans<|by rw[sp,eW]).trans ?_
 .rw[SH,c_ (by rw[Yp,Ym];have:=H.xl;exact Yi (show _<=3 by show B xs+1+1<=3;omega) aaA)];rfl
 refine(Zi<|Zq (d:=.int ((1+B xs:Nat):Int)) (M':=S4)<|bR J ?_).trans ?_
 .show R3.ok (D.int ((B (D.str h::xs.map D.str):Nat):Int)) S4=_;rw[Yp,Ym,l_]
 refine(Zi<|Zq (d:=.int ((1+B xs+j:Nat):Int)) (M':=S4)<|Zf J (Zf vE (Zf (bR J<|jU g4) J<|Jh _ _)<|cg ?_) ?_).trans ?_
 .rw[wl];omega
 .rw[wl,show((1+B xs+B t.flat:Nat):Int)-((1+B xs:Nat):Int)=(B t.flat:Int)by omega,ej,oF];congr 2
 exact Zi (Zq<|Zf vE J<|(cg aaA).trans<|by rw[HE])
end
structure Pre(M S:b3):Prop where
 len:B M<=S.length
 pre:∀a,a<B M->S[a]?=M[a]?
def Pre.app(p:Pre M S)(G:b3):Pre M (S++G):=⟨by rw[Yd];exact Nat.le_add_right_of_le p.len,λa ha=>by rw[Yk<|Y5 ha p.len];exact p.pre a ha⟩
def Pre.set(p:Pre M S)(h:B M<=n)(o:MO):Pre M (S.set n o):=⟨by rw[tQ];exact p.len,λa ha=>by rw[Ys<|by exactλz=>by omega];exact p.pre a ha⟩
def ZrU{d:D}(p:Pre M S)(h:below (B M) d=true):gj M d S= .ok d M:=by
 have ht:S.take (B M)=M:=by
  apply Eo;intro a;by_cases ha:a<M.length
  .rw[yJ ha];exact p.pre a ha
  .rw[Nz (by rw[lM];omega),Nz<|k_ ha]
 unfold gj;rw[h,ht,j2 J];rfl
def Zvb{c f:b9}{i:Int}:vU c f (.ref<|B S) (S++[.ins (0::c) [(f,.int i)]])= .ok (.int i) (S++[.ins (0::c) [(f,.int i)]]):=by unfold vU;simp
def v7.len(h:v7 f ws):j7 [32] ws<=SZ:=by have:=(Dg 32 62 ws h.1).1;have:=h.2.1;exact Yi (show _<=1260 by omega) aaA
section
variable {cs:List Int} {c d:Nat} {M:b3} {ao:Nat}
def ZxI(dk:cW cs c d ao M)(r9:M[nr]?=O (.L<|names.map D.str))(nd:nr≠d)(hn:B names=12)(qV:∀x∈names,b_ x)(ha:ao+80<1000000):
  ∃(wb:d6) (S:b3) (at':Nat),zW [.ref d,.ref nr,.bl f] M= .ok (.str<|glue [32] wb) S/\jW f wb/\mL cs c d M S ao at' 70:=by
 let⟨v,S1,hv,D1,nP,l1⟩:=dk.draw b5;have t4:S1[nr]?=O (.L<|names.map D.str):=nP.get r9 nd;have q:e2 aN iO pz [My d,My nr,O<|.bl f] M= .ok (.bl<|decide<|v % 2=0) S1:=Zf (Zf (dD J hv) J<|cg aaA) J (by simp only[aN,rH]);have fin:∀{S2:b3} {at':Nat} {ws:d6},v7 f ws->cW cs c d at' S2->Kp d M S2->at'<=ao+70->J7 [My d,My nr,O<|.bl f] M= .rt (.str<|glue [32] ws) S2->∃(wb:d6) (S:b3) (at':Nat),zW [.ref d,.ref nr,.bl f] M= .ok (.str<|glue [32] wb) S/\jW f wb/\mL cs c d M S ao at' 70:=λ{S2 at' ws} hb h1 h2 h3 h4=>by let⟨_,_,wb,e,i8⟩:=hb;let⟨S,e2,D⟩:=Lj (ao:=ao) (x:=.str<|glue [32] wb) (n:=70) dk.lt h1 h2 h3;exact⟨wb,S,at',(jT (M':=S2) (env:=[My d,My nr,O<|.bl f])<|by rwa[<-e]).trans e2,i8,D⟩
 by_cases e:v % 2=0
 .rw[j2 e]at q;let⟨n,S2,ws,at',h1,h2,h3,h4,h5,h6⟩:=ZqD (f:=f) D1 t4 nd hn qV b5;refine fin h3 h4 (nP.trans h5) b5 ?_;unfold J7;exact iK<|(cO q).trans<|b7<|sG J (Fy J J h1)<|K_ h2 h3.len
 .rw[j3 e]at q;let⟨n,S2,ws,h1,h2,h3,h4,h5⟩:=Zoj (f:=f) D1 t4 nd hn qV b5;refine fin h3 h4 (nP.trans h5) b5 ?_;unfold J7;exact(Zi<|cZ q).trans (b7<|sG J (W3 J J J h1)<|K_ h2 h3.len)
end
def Zq6{T:b9}(h:mK M z (vW [.str T] M)):Q5 [.str T,.int z] M= .ok (.bl true) M:=by
 let⟨S',q,q1,q2⟩:=h
 let S1:=S'++[MO.ins (0::nJ) [(uE,.int z)]]
 have p:Pre M S1:=Pre.app ⟨q1,q2⟩ _;have g:S1[B S']?=O (.ins (0::nJ) [(uE,.int z)]):=Zm _ _ _;refine(jT (M':=S1) (d:=.bl true) (env:=[i5 T,c8 z,Yj,Yj]) ?_).trans (ZrU p J);unfold EN;refine(Zi<|Zq J).trans ?_;refine(Zi<|ZrB (x:=⟨nJ,.ref<|B S'⟩) (M':=S1) (e2:=[i5 T,c8 z,My<|B S',Yj]) (ZqX<|(Rn (ds:=[.str T]) yA).trans q) J (Zq J) J).trans ?_;refine(Zi<|cZ (M':=S1)<|dF J<|Zvc g J J).trans ?_;have y:e1 pH (e1 (oM [nJ] [])<|Zb 2) [i5 T,c8 z,My<|B S',Yj] S1= .ok (.bl false) S1:=dF (dF J<|Zvy g J) J;refine(Zi<|cZ (M':=S1)<|(iZ y).trans y).trans ?_;have fl:e1 (vU nJ uE) (Zb 2) [i5 T,c8 z,My<|B S',Yj] S1= .ok (.int z) S1:=dF J Zvb;have i1:e1 (w5 .int) (e1 (vU nJ uE)<|Zb 2) [i5 T,c8 z,My<|B S',Yj] S1= .ok (.bl true) S1:=dF fl J;have i2:e1 (w5 .bool) (e1 (vU nJ uE)<|Zb 2) [i5 T,c8 z,My<|B S',Yj] S1= .ok (.bl false) S1:=dF fl J;exact b7<|(jV i1).trans<|(jV (M1:=S1)<|dF i2 J).trans<|Zf fl J<|nq J
theorem ZpW(s:Nat):∀T:d6,B (glue [s] T)<=gl T
 |[]=>Yu _|[t]=>by show B t<=_;simp[gl]|t::u::T=>by have:=ZpW s<|u::T;rw[sE,Yd,Yd];show _<=((t::u::T).map λt=>B t+1).sum;rw[Yw,List.sum_cons];have e:gl (u::T)=((u::T).map λt=>B t+1).sum:=rfl;simp only[Y8];omega
def ZuL(T:d6)(s:Nat):j7 [s] T=gl T:=rfl
structure TS(cs:List Int)(c d tl rl:Nat)(b6:c9)(S:b3)(Ls:List (Option d6))(ao:Nat):Prop where
 dk:cW cs c d ao S
 ht:S[tl]?=O (.L<|(Ls.map bQ).map D.str)
 hr:S[rl]?=O (.L b6)
 ne:tl≠d/\tl≠c/\rl≠d/\rl≠tl
section
variable {cs:List Int} {c d tl rl:Nat} {b6:c9}
def TS.put(T:TS cs c d tl rl b6 S Ls ao)(l:Option d6):TS cs c d tl rl b6 (S.set tl<|.L<|((Ls++[l]).map bQ).map D.str) (Ls++[l]) ao:=⟨T.dk.put T.ne.1 T.ne.2.1 _,Y4 (Yg.mp T.ht).1,by rw[Ys<|cu T.ne.2.2.2];exact T.hr,T.ne⟩
def TS.app(T:TS cs c d tl rl b6 S Ls ao){e:E3}{l:Option d6}(hv:Zb 7 env S= .ok (.ref tl) S)(he:e env S= .ok (.str<|bQ l) S)(hl:B Ls<=10000):
  bC (aU bK cD (Zb 7)<|Za e Ze) env S= .nx env (S.set tl<|.L<|((Ls++[l]).map bQ).map D.str):=by
 refine(p_ hv T.ht he T.ht (by rw[Ym,Ym];exact uY hl aaA)).trans ?_;rw[show(Ls.map bQ).map D.str++[D.str<|bQ l]=((Ls++[l]).map bQ).map D.str by simp]
def ZkM(Ls:List (Option d6))(l:Option d6):gl ((Ls++[l]).map bQ)=gl (Ls.map bQ)+(B (bQ l)+1):=by rw[fX];exact Lr _ _
end
def ZqU(h6:B tk<=6)(nm:∀x∈tk,b_ x):sU (dw::tk)/\(glue [32]<|dw::tk).length<=63/\j7 [32] (dw::tk)<=63:=by
 have hw:∀w∈dw::tk,B w<=8/\∀c∈w,97<=c:=λw hw=>by
  rcases Yo.mp hw with e|e
  .rw[e];decide
  .exact⟨(nm w e).le,λc hc=>((nm w e).low c hc).1⟩
 have hl:=Dg 32 8 (dw::tk) λw h=>(hw w h).1;have e7:B (dw::tk)=B tk+1:=rfl;rw[e7]at hl;refine⟨⟨nofun,λw h=>⟨λz=>by have:=(hw w h).2 _ z;omega,λz=>by have:=(hw w h).2 _ z;omega⟩,λz=>?_,b5⟩,b5,b5⟩;cases tk with
 |nil=>cases z|cons y ys=>rw[sE]at z;cases(HX.mp z).1
abbrev tyB:S3:=Zt bt cz
theorem RK:∀(k:Nat) (Ls:List (Option d6)) (l:Option d6),rowsOf k (Ls++[l])=rowsOf k Ls++rowsOf (k+B Ls) [l]
 |k,[],l=>rfl|k,Yj::r,l=>by show rowsOf (k+1) (r++[l])=rowsOf (k+1) r++_;rw[RK (k+1) r l,Yp,show k+1+B r=k+(B r+1)by omega]
 |k,O w::r,l=>by show _::rowsOf (k+1) (r++[l])=_::(rowsOf (k+1) r++_);rw[RK (k+1) r l,Yp,show k+1+B r=k+(B r+1)by omega]
def Zx3(T:d6):j7 [] T<=gl T/\(glue [] T).length<=gl T:=by
 have h1:j7 [] T<=gl T:=by
  induction T with
  |nil=>exact Yu _|cons t T ih=>show B t+0+j7 [] T<=B t+1+gl T;omega
 refine⟨h1,?_⟩;clear h1
 induction T with
 |nil=>exact g_ _|cons t T ih=>
  cases T with
  |nil=>show B t<=B t+1+0;omega|cons u T=>rw[sE,Yd,jw];show _<=B t+1+gl (u::T);omega
structure G5(cs:List Int)(c d tl rl:Nat)(Z:List d6)(p:Nat)(S:b3)(Ls:List (Option d6))(ao k:Nat)(num:Int):Prop where
 ts:TS cs c d tl rl (Z.map λws=>D.str<|glue [32] ws) S Ls ao
 Cu:(rowsOf 1 Ls).map (·.2)=Z.take k
 nm:p<k->∃wb,(rowsOf 1 Ls)[p]?=O (num,wb)
 mem:∀ws,O ws∈Ls->ws∈Z
 len:B Ls<=2*k
 gl_:gl (Ls.map bQ)<=gl ((Z.take k).map<|glue [32])+k
section
variable {cs:List Int} {c d tl rl:Nat} {Z:List d6} {p:Nat}
def ZuT{ao k:Nat}{num:Int}(I:G5 cs c d tl rl Z p S Ls ao k num)(hk:k<B Z)(hz:B Z<=440)(hg:gl (Z.map<|glue [32])<=20000)(ha:ao<1000000){v0 v2 v3 v6:Option D}:
  ∃(S':b3) (LK:List (Option d6)) (sY:Int),tyB [v0,My d,v2,v3,My rl,c8 (p:Int),v6,My tl,c8 num,c8 (k:Int)] S= .nx [v0,My d,v2,v3,My rl,c8 (p:Int),v6,My tl,c8 sY,c8 (k:Int)] S'/\G5 cs c d tl rl Z p S' LK (ao+1) (k+1) sY:=by
 let⟨w,S1,hw,D1,kp,l1⟩:=I.ts.dk.draw ha;have T1:TS cs c d tl rl (Z.map λws=>D.str<|glue [32] ws) S1 Ls (ao+1):=⟨D1,kp.get I.ts.ht I.ts.ne.1,kp.get I.ts.hr I.ts.ne.2.2.1,I.ts.ne⟩
 let E:bO:=[v0,My d,v2,v3,My rl,c8 (p:Int),v6,My tl,c8 num,c8 (k:Int)]
 have Zzt:gl ((Z.take k).map<|glue [32])<=gl (Z.map<|glue [32]):=by
  have e:Z.map (glue [32])=(Z.take k).map (glue [32])++(Z.drop k).map (glue [32]):=by rw[<-fX,Ur]
  rw[e];show _<=(((Z.take k).map (glue [32])++(Z.drop k).map (glue [32])).map λt=>B t+1).sum;rw[fX,List.sum_append];exact iG _ _
 have g1:=Zx3<|Ls.map bQ;have gg:=I.gl_;have ll:=I.len;have sz:gl (Ls.map bQ)<=SZ:=Yi (show _<=21000 by omega) aaA;have m6:e2 Zx nS qk E S= .ok (.int<|w % 6) S1:=Zf (dD J hw) J<|cg aaA;have ZmV:nu (.str []) [.ref tl] S1= .ok (.str<|glue []<|Ls.map bQ) S1:=by simp only[W4,T1.ht,strs_map,c_<|Yi g1.1 sz]
 have Zpp:aV [.str<|glue []<|Ls.map bQ] S1= .ok (.int (B (glue []<|Ls.map bQ):Int)) S1:=c_<|Yi g1.2 sz;have Zth:aD aV hX E S1= .ok (.int (B (glue []<|Ls.map bQ):Int)) S1:=bR (sG J J ZmV) Zpp;have hc:∃b:Bool,cN fE eJ E S= .ok (.bl b) S1:=by
  by_cases h7:w % 6=1
  .exact⟨_,(jV (M1:=S1)<|Zf m6 J<|nq h7).trans<|Zf Zth J<|mq ..⟩
  .exact⟨_,pN (M1:=S1)<|Zf m6 J<|pK h7⟩
 let⟨b,hc⟩:=hc;have s1:∃(S2:b3) (L2:List (Option d6)),aG (cN fE eJ) ix aW E S= .nx E S2/\TS cs c d tl rl (Z.map λws=>D.str<|glue [32] ws) S2 L2 (ao+1)/\rowsOf 1 L2=rowsOf 1 Ls/\(∀ws,O ws∈L2->ws∈Z)/\L2.length<=B Ls+1/\gl (L2.map bQ)<=gl (Ls.map bQ)+1:=by
  cases b with
  |true=>refine⟨_,Ls++[Yj],(cO hc).trans<|T1.app (l:=Yj) J J b5,T1.put Yj,by rw[RK];exact iD _,λws h=>I.mem ws (by simpa using h),i9,by rw[ZkM];exact Yu _⟩|false=>exact⟨S1,Ls,cZ hc,T1,rfl,I.mem,tU _,tU _⟩
 let⟨S2,L2,b1,T2,r2,m2,n2,gl2⟩:=s1
 let wk:=Z[k]
 have HG:e2 Zn (Zb 4) (Zb 9) E S2= .ok (.str<|bQ<|O wk) S2:=Zf J J (dO T2.hr (by rw[cP,jg,Y0 hk];rfl));have b2:=T2.app (env:=E) (e:=e2 Zn (Zb 4)<|Zb 9) (l:=O wk) J HG b5;have T3:=T2.put<|O wk
 let L3:=L2++[O wk]
 have r3:rowsOf 1 L3=rowsOf 1 Ls++[(((1+B L2:Nat):Int),wk)]:=by show rowsOf 1 (L2++[O wk])=_;rw[RK,r2];rfl
 have rl3:B (rowsOf 1 Ls)=k:=by have:=congrArg yN I.Cu;rw[Ym,lM]at this;omega
 have inv:∀sY,(p<k+1->∃wb,(rowsOf 1 L3)[p]?=O (sY,wb))->G5 cs c d tl rl Z p (S2.set tl<|.L<|(L3.map bQ).map D.str) L3 (ao+1) (k+1) sY:=λsY h=>by
  refine⟨T3,by rw[r3,fX,I.Cu,LB,Y0 hk];rfl,h,λws hw=>?_,by show(L2++[O wk]).length<=_;rw[Yd,Y8];omega,?_⟩
  .rcases gF.mp hw with e|e
   .exact m2 ws e
   .cases Yx.mp e;exact tO hk
  .show gl ((L2++[O wk]).map bQ)<=_;rw[ZkM,LB,Y0 hk];show _<=gl ((Z.take k++[wk]).map<|glue [32])+(k+1);rw[fX,show[wk].map (glue [32])=[glue [32] wk]from rfl,Lr];show _+(B (glue [32] wk)+1)<=_;omega
 have ln3:aD aV pd E (S2.set tl<|.L<|(L3.map bQ).map D.str)= .ok (.int (B L3:Int)) (S2.set tl<|.L<|(L3.map bQ).map D.str):=(bR J<|jU T3.ht).trans (by rw[Ym,Ym]);by_cases ek:k=p
 .refine⟨_,L3,(B L3:Int),(Zi b1).trans ((Zi b2).trans<|(cO (M':=S2.set tl<|.L<|(L3.map bQ).map D.str)<|Zf J J<|nq<|by rw[ek]).trans<|Zq ln3),inv _ λ_=>⟨wk,?_⟩⟩;rw[r3,uW b5,show p-B (rowsOf 1 Ls)=0 by omega];show O (((1+B L2:Nat):Int),wk)=O ((B (L2++[O wk]):Int),wk);rw[Yd,Y8,l_]
 .refine⟨_,L3,num,(Zi b1).trans<|(Zi b2).trans<|cZ (M':=S2.set tl<|.L<|(L3.map bQ).map D.str)<|Zf J J<|pK λz=>ek<|Bg z,inv _ λh=>?_⟩;let⟨wb,e⟩:=I.nm b5;exact⟨wb,by rw[r3];exact(Yk b5).trans e⟩
def Zqa(hz:B Z<=440)(hg:gl (Z.map<|glue [32])<=20000){v0 v2 v3 v6:Option D}{it:ir}(hi:it.lock=Yj):∀(m k:Nat) (S:b3) (Ls:List (Option d6)) (ao:Nat) (num:Int) (x9:Option D),G5 cs c d tl rl Z p S Ls ao k num->k+m=B Z->ao+m<1000000 ->
  ∃(S':b3) (LK:List (Option d6)) (at':Nat) (sY:Int) (y9:Option D),iz it (cV 9) tyB ((tR k m).map λ(i:Nat)=>D.int (i:Int)) [v0,My d,v2,v3,My rl,c8 (p:Int),v6,My tl,c8 num,x9] S= .nx [v0,My d,v2,v3,My rl,c8 (p:Int),v6,My tl,c8 sY,y9] S'/\G5 cs c d tl rl Z p S' LK at' (B Z) sY
 | 0,k,S,Ls,ao,num,x9,I,e,_=>⟨S,Ls,ao,num,x9,by show iz _ _ _ [] _ _=_;rw[w6,c_ (by unfold locked;rw[hi])],by rwa[<-e]⟩|m+1,k,S,Ls,ao,num,x9,I,e,ha=>by let⟨S1,L1,n1,h1,I1⟩:=ZuT I b5 hz hg b5 (v0:=v0) (v2:=v2) (v3:=v3) (v6:=v6);let⟨S',LK,at',sY,y9,h2,I2⟩:=Zqa hz hg hi m (k+1) S1 L1 (ao+1) n1 (c8 (k:Int)) I1 b5 b5;refine⟨S',LK,at',sY,y9,?_,I2⟩;show iz it (cV 9) tyB (.int (k:Int)::((tR (k+1) m).map λ(i:Nat)=>D.int (i:Int))) _ S=_;rw[rK,c_ (by unfold locked;rw[hi])];simp only[cV,qx,qy];rwa[h1]
end
def Zv0:zx [.int (p:Int),.int (a:Int)] M= .ok (.int ((gw p a:Nat):Int)) M:=by
 rw[Zs7];congr 2;by_cases h:(a:Int)<p
 .rw[c_ h];omega
 .rw[d4 h];omega
abbrev jt(Z:List d6):c9:=Z.map λws=>D.str<|glue [32] ws
section
variable {cs:List Int} {c d:Nat} {S:b3} {ao:Nat}
def Zrm{rl:Nat}{Z:List d6}{ef:E3}(dk:cW cs c d ao S)(hrl:S[rl]?=O (.L<|jt Z))(rd:rl≠d)(r9:S[nr]?=O (.L<|names.map D.str))(nd:nr≠d)(hn:B names=12)(qV:∀x∈names,b_ x)(ha:ao+80<1000000)(hz:B Z<=500)(h1:∀T,Zb 1 env T= .ok (.ref d) T)(h3:∀T,Zb 3 env T= .ok (.ref nr) T)(h4:∀T,Zb 4 env T= .ok (.ref rl) T)(hi:∀T,Zb i env T= .ok (.int (p:Int)) T)(hf:∀T,ef env T= .ok (.bl f) T):
  ∃(wb:d6) (S':b3) (at' n:Nat),e2 Zv (e2 Zv (bf (Zb 4) bh<|aX<|Zb i)<|Zz<|Za (aJ zW<|Za (Zb 1)<|Za (Zb 3)<|Za ef Ze) Ze) (bf (Zb 4) (aX<|Zb i) bh) env S= .ok (.ref n) S'/\S'[n]?=O (.L<|jt<|Z.take p++wb::Z.drop p)/\jW f wb/\cW cs c d at' S'/\Kp d S S'/\at'<=ao+70/\S.length<=n:=by
 have ld:=dk.lt
 let S1:=S++[MO.L<|(jt Z).take p]
 let⟨wb,S2,at',hb,i8,D2⟩:=ZxI (f:=f) (M:=S1) (dk.app _) (Zj r9 _) nd hn qV b5;have oi:∀T,aX (Zb i) env T= .ok (O (p:Int)) T:=λT=>by show(Zb i env T).bind _=_;rw[hi];rfl
 let S3:=S2++[MO.L [.str<|glue [32] wb]]
 let S4:=S3++[MO.L<|(jt Z).take p++[.str<|glue [32] wb]]
 let S5:=S4++[MO.L<|(jt Z).drop p]
 have g1:S2[B S]?=O (.L<|(jt Z).take p):=D2.kp.get (Zm _ _ _) b5;have gr2:S2[rl]?=O (.L<|jt Z):=D2.kp.get (Zj hrl _) rd;have zl:B (jt Z)<=500:=by rwa[Ym]
 have z1:B ((jt Z).take p)<=500:=Yi (Uv _ _) zl;have z2:B ((jt Z).drop p)<=500:=by rw[Az];omega
 have s1:bf (Zb 4) bh (aX<|Zb i) env S= .ok (.ref<|B S) S1:=(oY (a:=Yj) (b:=O (p:Int)) (h4 S) J (oi S) hrl).trans (by rw[Df]);have s2:bf (Zb 4) (aX<|Zb i) bh env S4= .ok (.ref<|B S4) S5:=(oY (a:=O (p:Int)) (b:=Yj) (h4 S4) (oi S4) J<|Zj (Zj gr2 _) _).trans (by rw[vY]);have ZrZ:(jt Z).take p++[D.str<|glue [32] wb]++(jt Z).drop p=jt (Z.take p++wb::Z.drop p):=by simp[jt]
 have ZzL:B S<=B S2:=Yi (by simp[S1]) D2.kp.len;refine⟨wb,S5++[.L<|jt<|Z.take p++wb::Z.drop p],at',B S5,(Zf (M1:=S4) (Zf s1 (bM (ds:=[.str<|glue [32] wb]) (M':=S2) (Zo (W3 (h1 S1) (h3 S1) (hf S1) hb) J) J)<|mH (Zj g1 _) (Zm _ _ []) (by show _+1<=_;omega)) s2<|mH (Zj (Zm _ _ []) _) (Zm _ _ []) (by rw[Yd];show _+1+_<=_;omega)).trans (by rw[ZrZ]),Zm _ _ _,i8,(((D2.dk.app _).app _).app _).app _,(((((Kp.app d S _).trans D2.kp).trans<|Kp.app d _ _).trans<|Kp.app d _ _).trans<|Kp.app d _ _).trans<|Kp.app d _ _,D2.le,by simp[S5,S4,S3];omega⟩
end
theorem HH:∀(rs:List Rw) (k:Nat) (x y:List Pf),lF rs x=O y->∃z,lF (rs.take k) x=O z
 |[],k,x,y,_=>⟨x,by rw[List.take_nil];rfl⟩|_::_,0,x,_,_=>⟨x,rfl⟩|r::rs,k+1,x,y,h=>by
  have h:(mJ r x).bind (lF rs)=O y:=h;show∃z,(mJ r x).bind (lF<|rs.take k)=O z;cases e:mJ r x with
  |none=>rw[e]at h;cases h|some w=>rw[e]at h;exact HH rs k w y h
structure Ztm(tk:Option d6)(rs:List Rw):Prop where
 ok:∀r∈rs,gJ r
 rn:∃y,lF rs [⟨lG,[],[],[]⟩]=O y
 tk:∀t,tk=O t->nO t=true/\t.length<=6/\∀x∈t,b_ x
abbrev uJ(tk:Option d6)(rs:List Rw):List d6:=(match tk with|none=>[]|some t=>[dw::t])++rs.map Rw.words
def Zxt{tk:Option d6}(H:Ztm tk rs){num:Int}(hp:p<=B (uJ tk rs))(i8:jW (decide<|p=0) wb)(qA:Ls≠[])(sP:∀ws,O ws∈Ls->sU ws)(hn:B Ls<900)(ht:B (glue [10]<|Ls.map bQ)<=900000)(hL:((rowsOf 1 Ls).take p).map (·.2)=(uJ tk rs).take p)(hb:(rowsOf 1 Ls)[p]?=O (num,wb)):mK M num (vW [.str<|glue [10]<|Ls.map bQ] M):=by
 have qv:p<B (rowsOf 1 Ls):=(Yg.mp hb).1;have eL:rowsOf 1 Ls=(rowsOf 1 Ls).take p++(num,wb)::(rowsOf 1 Ls).drop (p+1):=by have e:=Yg.mp hb;rw[<-e.2,<-yI qv,Ur]
 by_cases h0:p=0
 .rw[h0,List.take_zero,jw]at eL;rcases i8.hd (j2 h0)with h|⟨t,e,h⟩
  .exact ZpI qA sP hn ht (L:=[]) (rs:=[]) eL J nofun J i8.nd λ_=>h
  .rw[e]at eL;have l:=i8.le;rw[e,Yp]at l;exact Zu3 qA sP hn ht eL b5 (λx hx=>Yi (Lz<|i8.wf x (by rw[e];exact Yf _ hx)).1 aaA) h
 .let⟨y,hr⟩:=H.rn;cases tk with
  |none=>
   have e:(uJ Yj rs).take p=(rs.take p).map Rw.words:=by show([]++rs.map Rw.words).take p=_;rw[jw,A_]
   rw[e]at hL;let⟨z,hz⟩:=HH rs p _ _ hr;refine ZpI qA sP hn ht eL hL (λr h=>H.ok r<|wK h) hz i8.nd λq=>?_;have l:=congrArg yN hL;rw[q,uX,Er,Ym,lM]at l;omega
  | some t=>
   obtain⟨q,rfl⟩:∃q,p=q+1:=⟨p-1,b5⟩;let⟨t1,ZiS,t3⟩:=H.tk t J;have e:(uJ (O t) rs).take (q+1)=(dw::t)::(rs.take q).map Rw.words:=by show(dw::t)::(rs.map Rw.words).take q=_;rw[A_]
   rw[e]at hL;let⟨z,hz⟩:=HH rs q _ _ hr;cases hR:rowsOf 1 Ls with
   |nil=>rw[hR]at qv;exact k9 qv (LV _)|cons x R=>rw[hR,HY,NP]at eL;rw[hR,HY,Yw]at hL;let⟨e1,e2⟩:=lu hL;refine Zta qA sP hn ht (z0:=x.1) (tk:=t) (L:=R.take q) (rs:=rs.take q) (R:=R.drop<|q+1) ?_ b5 (λw hw=>Yi (t3 w hw).le aaA) t1 e2 (λr h=>H.ok r<|wK h) hz i8.nd;rwa[hR,<-e1]
def ZvP{b:c9->b3->R3 D}{M M1 M2:b3}{d:D}(h1:g env M= .ok ds M1)(h2:b ds M1= .ok d M2):aD b g env M= .ok d M2:=by show(g env M).bind b=_;rwa[h1]
def HI(a b:d6):gl (a++b)=gl a+gl b:=by simp[gl]
def Zs8(Z:List d6)(p:Nat)(wb:d6):gl ((Z.take p++wb::Z.drop p).map<|glue [32])=gl (Z.map<|glue [32])+(B (glue [32] wb)+1):=by
 have e:gl (Z.map<|glue [32])=gl ((Z.take p).map<|glue [32])+gl ((Z.drop p).map<|glue [32]):=by rw[<-HI,<-fX,Ur]
 rw[fX,Yw,HI,e];show _+(B (glue [32] wb)+1+gl ((Z.drop p).map<|glue [32]))=_;omega
def law_holds:∀ns:List Int,B ns<=63->∃M',ZpJ [.bB<|ns.map D.int] []= .ok (.bl true) M':=by
 intro ns tN;refine Rt.law (env:=[O<|.bB<|ns.map D.int,Yj,Yj,Yj,Yj,Yj,Yj,Yj,Yj,Yj]) ?_;unfold EO
 let ZsL:b3:=[.L<|ns.map D.int]
 let M1:b3:=[.L<|ns.map D.int,.L [.ref 0,.int 0]]
 have Afa:cutD (ns.map D.int) Yj (O ((120:Nat):Int))=ns.map D.int:=Zvx _ _ (by rw[Ym];omega);have sl:∀{a1 a2 a3 a4 a5 a6 a7 a8 a9:Option D} (S:b3),bf (Zb 0) bh (aX<|eC<|.int 120) [O<|.bB<|ns.map D.int,a1,a2,a3,a4,a5,a6,a7,a8,a9] S= .ok (.ref<|B S) (S++[.L<|ns.map D.int]):=λS=>by show alloc (.L<|cutD (ns.map D.int) Yj<|O ((120:Nat):Int)) S=_;rw[Afa];rfl
 refine Rt.step (Zq (d:=.ref 1) (M':=M1)<|(bM (M':=ZsL) (ds:=[.ref 0,.int 0]) (Zo (sl []) J) J).trans J) ?_;have ZlL:cW ns 0 1 0 M1:=⟨rfl,rfl,aaA⟩;let⟨v,S1,hv,D1,nP,l1⟩:=ZlL.draw aaA;refine Rt.step (Zq<|dD J hv) ?_;let⟨S2,nr,names,qV,gnm,Af2,HK,RL,nnd,D2,Rx⟩:=ZsA D1 aaA;have lS1:B S1=2:=l1;have G6:nr≠1:=by omega
 refine Rt.step (Zq<|dD J qV) ?_;let⟨S4,n4,rs,ds,GX,hpr,g4,gR,D4,kp4,v5,BQ,rl,rgl,dl,ze⟩:=Zub (M:=S2) (many:=gw 60<|B ns) D2 gnm G6 HK RL b5 aaA;have l2:2<=B S2:=by have:=Rx.len;omega
 have l4:B S2<B S4:=(Yg.mp gR).1;refine Rt.step (Zq (d:=.ref<|B S2) (M':=S4)<|Zf (Fz (M1:=S2) (M2:=S2) (M3:=S2) (M4:=S2) J J (ZvP (M1:=S2) (Zo J<|Zo (d:=.int (B ns:Int)) (bR J (by show R3.ok (D.int ((B (ns.map D.int):Nat):Int)) S2=_;rw[Ym])) J)<|Zv0 (p:=60)) J hpr) J<|dO g4<|cP _ 0) ?_;have Aba:S4[nr]?=O (.L<|names.map D.str):=kp4.get gnm G6;have etx:∀q:List Rw,jt (q.map Rw.words)=(cH q).map D.str:=λq=>by rw[jt,pC,pC];rfl
 have s5:∃(S5:b3) (r5:Nat) (tk:Option d6),aG fz bz aW [O<|.bB<|ns.map D.int,My 1,c8 v,My nr,My<|B S2,Yj,Yj,Yj,Yj,Yj] S4= .nx [O<|.bB<|ns.map D.int,My 1,c8 v,My nr,My r5,Yj,Yj,Yj,Yj,Yj] S5/\S5[r5]?=O (.L<|jt<|uJ tk rs)/\S4<+:S5/\2<=r5/\Ztm tk rs/\(∀ws∈uJ tk rs,sU ws)/\(uJ tk rs).length<=425/\gl ((uJ tk rs).map<|glue [32])<=3600:=by
  have C7:gl ((rs.map Rw.words).map<|glue [32])=gl (cH rs):=by rw[pC];rfl
  by_cases h:v / 2 % 2=1
  .let⟨b,eb,hb⟩:=fC (v / 4) 6 aaA;have eb:v / 4 % 6=(b:Int):=eb
   let tk:=names.take<|1+b
   have tl:B tk=1+b:=by show(names.take<|1+b).length=_;rw[lM];omega
   have tok:∀x∈tk,b_ x:=λx hx=>RL x<|wK hx;have Aa0:=ZqU (tk:=tk) b5 tok;have tn:tk.Nodup:=nnd.sublist<|Uz _ _;have tb:nO tk=true:=by unfold nO;rw[j2 (show 1<=B tk by omega),j2 (show B tk<=6 by omega),oL (xs:=tk) (acc:=[]) (by simpa using tn),j2 i9,jh.mpr λx hx=>(tok x hx).b];rfl
   have eg:dw++[32]++glue [32] tk=glue [32] (dw::tk):=by
    cases ht:tk with
    |nil=>rw[ht]at tl;simp at tl;omega|cons x ys=>rw[sE,ju]
   let T:=glue [32]<|dw::tk
   let Dv:=S4++[MO.L<|tk.map D.str]
   let LQ:=Dv++[MO.L [.str T]]
   have cs1:bf (Zb 3) bh ff [O<|.bB<|ns.map D.int,My 1,c8 v,My nr,My<|B S2,Yj,Yj,Yj,Yj,Yj] S4= .ok (.ref<|B S4) Dv:=by
    refine(oY (a:=Yj) (b:=O ((1+b:Nat):Int)) J J ?_ Aba).trans ?_
    .show(e2 Zv px il [O<|.bB<|ns.map D.int,My 1,c8 v,My nr,My<|B S2,Yj,Yj,Yj,Yj,Yj] S4).bind _=_;rw[Zf (M3:=S4) (d:=.int ((1+b:Nat):Int)) J r6 (by rw[oF,eb];congr 2)];rfl
    .rw[Df,<-A_]
   have tgl:j7 [32] tk<=63/\(glue [32] tk).length<=63:=by have:=Dg 32 8 tk λw hw=>(tok w hw).le;rw[tl]at this;exact⟨b5,b5⟩
   have ad:Zv (.str<|dw++[32]) (.str<|glue [32] tk) Dv= .ok (.str T) Dv:=(add_str (by show 5+_<=1000;omega) _).trans (by rw[eg]);have c1:e2 aN ik px [O<|.bB<|ns.map D.int,My 1,c8 v,My nr,My<|B S2,Yj,Yj,Yj,Yj,Yj] S4= .ok (.bl true) S4:=Zf r6 J<|nq h;have ew:jt (uJ (O tk) rs)=[.str T]++(cH rs).map D.str:=by rw[<-etx];rfl
   refine⟨LQ++[.L<|jt<|uJ (O tk) rs],B LQ,O tk,(cO c1).trans (Zq<|(Zf (M1:=LQ) (bM (ds:=[.str T]) (M':=Dv) (Zo (Zf J (sG J cs1<|K_ (Zm _ _ [])<|Yi tgl.1 aaA) ad) J) J) J<|mH (Zm _ _ []) (Zj (Zj gR _) _) (by rw[Ym,Ym];show 1+_<=_;omega)).trans<|by rw[ew]),Zm _ _ _,((Y1 _ _).trans<|Y1 _ _).trans<|Y1 _ _,by first|(simp[LQ,Dv];done)|(simp[LQ,Dv];omega),⟨v5,⟨_,BQ⟩,λt e=>by cases e;exact⟨tb,b5,tok⟩⟩,λws hw=>?_,by show(rs.map Rw.words).length+1<=425;rw[Ym];omega,?_⟩
   .rcases Yo.mp hw with e|e
    .rw[e];exact Aa0.1
    .let⟨r,hr,rfl⟩:=kZ.mp e;exact F2<|v5 r hr
   .show gl ([glue [32]<|dw::tk]++(rs.map Rw.words).map (glue [32]))<=3600;rw[HI,C7];have:=Aa0.2.1;show(B (glue [32]<|dw::tk)+1+0)+_<=3600;omega
  .have c1:e2 aN ik px [O<|.bB<|ns.map D.int,My 1,c8 v,My nr,My<|B S2,Yj,Yj,Yj,Yj,Yj] S4= .ok (.bl false) S4:=Zf r6 J<|pK h;refine⟨S4,B S2,Yj,cZ c1,by show S4[B S2]?=O (.L<|jt<|[]++rs.map Rw.words);rwa[jw,etx],Lo _,l2,⟨v5,⟨_,BQ⟩,nofun⟩,λws hw=>?_,by show([]++rs.map Rw.words).length<=425;rw[jw,Ym];omega,?_⟩
   .have hw:ws∈rs.map Rw.words:=hw;let⟨r,hr,rfl⟩:=kZ.mp hw;exact F2<|v5 r hr
   .show gl (([]++rs.map Rw.words).map<|glue [32])<=3600;rw[jw,C7];omega
 let⟨S5,r5,tk,h5,g5,Tg,l5,ZpU,o3,hRl,hRg⟩:=s5;refine Rt.step h5 ?_;obtain⟨RW,eRW⟩:∃R,R=uJ tk rs:=⟨_,rfl⟩;rw[<-eRW]at g5 o3 hRl hRg;have Afb:S5[nr]?=O (.L<|names.map D.str):=by let⟨G,rfl⟩:=Tg;exact Zj Aba G
 have ZpB:cW ns 0 1 GX S5:=by let⟨G,rfl⟩:=Tg;exact D4.app G
 have s6:∃(p:Nat) (S6:b3),p<=B RW/\aC 5 bo [O<|.bB<|ns.map D.int,My 1,c8 v,My nr,My r5,Yj,Yj,Yj,Yj,Yj] S5= .nx [O<|.bB<|ns.map D.int,My 1,c8 v,My nr,My r5,c8 (p:Int),Yj,Yj,Yj,Yj] S6/\S5<+:S6:=by
  let⟨a,ea,ha⟩:=fC (v / 24) (B RW+1)<|Nat.succ_pos _;have ln:∀{a5 a6 a7 a8 a9:Option D},aD aV oB [O<|.bB<|ns.map D.int,My 1,c8 v,My nr,My r5,a5,a6,a7,a8,a9] S5= .ok (.int (B RW:Int)) S5:=(bR J<|jU g5).trans (by rw[Ym]);let⟨b,eb,hb⟩:=fC (v / 12) 4 aaA;have eb:v / 12 % 4=(b:Int):=eb;have lm:e2 Zx (e2 Zw (Zb 2)<|eC<|.int 24) iP [O<|.bB<|ns.map D.int,My 1,c8 v,My nr,My r5,Yj,Yj,Yj,Yj,Yj] S5= .ok (.int (a:Int)) S5:=Zf vE (Zf ln J<|oF _ _) ((cg b5).trans<|by rw[show(B RW:Int)+1=((B RW+1:Nat):Int)by omega,ea]);have L:Zz bS [O<|.bB<|ns.map D.int,My 1,c8 v,My nr,My r5,Yj,Yj,Yj,Yj,Yj] S5= .ok (.ref<|B S5) (S5++[.L [.int (a:Int),.int ((gw 1 (B RW):Nat):Int)]]):=bM (Zo lm<|Zo (ZvP (Zo J<|Zo ln J)<|Zv0 (p:=1)) J) J;have key:∃p:Nat,p<=B RW/\[D.int (a:Int),.int ((gw 1 (B RW):Nat):Int)][b / 3]?=c8 (p:Int):=by
   match b,hb with
   |0,_=>exact⟨a,b5,rfl⟩|1,_=>exact⟨a,b5,rfl⟩|2,_=>exact⟨a,b5,rfl⟩|3,_=>exact⟨gw 1<|B RW,b5,rfl⟩
  let⟨p,hp,hk⟩:=key;refine⟨p,_,hp,Zq<|Zf L (Zf r6 J<|dm aaA)<|dO (Zm _ _ _) ?_,Y1 _ _⟩;rwa[eb,show(b:Int) / 3=((b / 3:Nat):Int)by omega,cP]
 let⟨p,S6,hp,h6,Mt⟩:=s6;refine Rt.step h6 ?_;have Abb:S6[nr]?=O (.L<|names.map D.str):=by let⟨G,rfl⟩:=Mt;exact Zj Afb G
 have Zkr:cW ns 0 1 GX S6:=by let⟨G,rfl⟩:=Mt;exact ZpB.app G
 have g6:S6[r5]?=O (.L<|jt RW):=by let⟨G,rfl⟩:=Mt;exact Zj g5 G
 let⟨wb,S7,at7,r7,h7,g7,i8,D7,HL,Af3,lr7⟩:=Zrm (f:=decide<|p=0) (i:=5) (p:=p) (ef:=e2 aN (Zb 5) pz) (env:=[O<|.bB<|ns.map D.int,My 1,c8 v,My nr,My r5,c8 (p:Int),Yj,Yj,Yj,Yj]) Zkr g6 b5 Abb G6 HK RL b5 (show B RW<=500 by omega) (λ_=>rfl) (λ_=>rfl) (λ_=>rfl) (λ_=>rfl) (λT=>Zf J J (by
  by_cases e:p=0
  .rw[j2 e];exact nq (by rw[e];rfl)
  .rw[j3 e];exact pK λz=>e<|Bg z))
 refine Rt.step (Zq h7) ?_;have Afc:=HL.get Abb G6;obtain⟨Z1,eZ⟩:∃Z,Z=RW.take p++wb::RW.drop p:=⟨_,rfl⟩;have z1l:B Z1=B RW+1:=by rw[eZ,Yd,Yp,lM,Az];omega
 have bl:=i8.line;have z1g:=Zs8 RW p wb;rw[<-eZ]at z1g g7;have HM:∀ws∈Z1,sU ws:=λws hw=>by
  rw[eZ]at hw;rcases gF.mp hw with e|e
  .exact o3 ws<|wK e
  .rcases Yo.mp e with e|e
   .rw[e];exact bl.1
   .exact o3 ws<|Uw e
 have z1t:Z1.take (p+1)=RW.take p++[wb]:=by
  have e:B (RW.take p++[wb])=p+1:=by rw[Yd,lM,Y8];omega
  rw[eZ,show RW.take p++wb::RW.drop p=(RW.take p++[wb])++RW.drop p by simp,<-e,U3]
 have l6:2<=B S6:=by let⟨G,rfl⟩:=Mt;let⟨G,rfl⟩:=Tg;simp;omega
 have s8:∃(S8:b3) (r8:Nat) (a6:Option D) (Z:List d6) (Dw:Nat),aG ip (Zt cK<|aC 4<|e2 Zv (e2 Zv mw<|Zz<|Za (aJ zW<|Za (Zb 1)<|Za (Zb 3)<|Za (eC<|.bl false) Ze) Ze)<|bf (Zb 4) (aX<|Zb 6) bh) aW [O<|.bB<|ns.map D.int,My 1,c8 v,My nr,My r7,c8 (p:Int),Yj,Yj,Yj,Yj] S7= .nx [O<|.bB<|ns.map D.int,My 1,c8 v,My nr,My r8,c8 (p:Int),a6,Yj,Yj,Yj] S8/\S8[r8]?=O (.L<|jt Z)/\cW ns 0 1 Dw S8/\Dw<=at7+71/\2<=r8/\Z.take (p+1)=RW.take p++[wb]/\Z.length<=430/\(∀ws∈Z,sU ws)/\gl (Z.map<|glue [32])<=10000/\p<B Z:=by
  have c1:e2 aN (e2 Zx (Zb 2) pE) px [O<|.bB<|ns.map D.int,My 1,c8 v,My nr,My r7,c8 (p:Int),Yj,Yj,Yj,Yj] S7= .ok (.bl<|decide<|v % 2=1) S7:=Zf AR J (by simp only[aN,rH]);have Af4:gl (Z1.map<|glue [32])<=5000:=by have:=bl.2;omega
  by_cases e:v % 2=1
  .rw[j2 e]at c1;let⟨w,HP,hw,D7a,Th,l7a⟩:=D7.draw b5;let⟨q,eq,hq⟩:=fC w (B Z1-p) b5;have ln:aD aV oB [O<|.bB<|ns.map D.int,My 1,c8 v,My nr,My r7,c8 (p:Int),Yj,Yj,Yj,Yj] HP= .ok (.int (B Z1:Int)) HP:=(bR J<|jU<|Th.get g7 b5).trans (by rw[Ym]);have hb6:aC 6 df [O<|.bB<|ns.map D.int,My 1,c8 v,My nr,My r7,c8 (p:Int),Yj,Yj,Yj,Yj] S7= .nx [O<|.bB<|ns.map D.int,My 1,c8 v,My nr,My r7,c8 (p:Int),c8 ((p+1+q:Nat):Int),Yj,Yj,Yj] HP:=by
    refine Zq<|Zf (Zf J J<|oF _ _) (Zf (dD J hw) (Zf ln J<|Jh _ _)<|cg b5) ?_;rw[show(B Z1:Int)-(p:Int)=((B Z1-p:Nat):Int)by omega,eq,oF];congr 2
   let⟨wb2,S8,Dw,r8,h8,g8,Zjy,D8,kp8,Afd,lr8⟩:=Zrm (f:=false) (i:=6) (p:=p+1+q) (ef:=eC<|.bl false) (env:=[O<|.bB<|ns.map D.int,My 1,c8 v,My nr,My r7,c8 (p:Int),c8 ((p+1+q:Nat):Int),Yj,Yj,Yj]) D7a (Th.get g7 b5) b5 (Th.get Afc G6) G6 HK RL b5 (show B Z1<=500 by omega) (λ_=>rfl) (λ_=>rfl) (λ_=>rfl) (λ_=>rfl) λ_=>rfl;have bl2:=Zjy.line;have l7:=HL.len;have zl:B (Z1.take (p+1+q)++wb2::Z1.drop (p+1+q))=B Z1+1:=by rw[Yd,Yp,lM,Az];omega
   refine⟨S8,r8,c8 ((p+1+q:Nat):Int),Z1.take (p+1+q)++wb2::Z1.drop (p+1+q),Dw,(cO c1).trans<|(Zi hb6).trans<|Zq h8,g8,D8,b5,b5,?_,b5,λws hw=>?_,?_,b5⟩
   .rwa[Kk (by rw[lM];omega),U4,show gw (p+1) (p+1+q)=p+1 by omega]
   .rcases gF.mp hw with e|e
    .exact HM ws<|wK e
    .rcases Yo.mp e with e|e
     .rw[e];exact bl2.1
     .exact HM ws<|Uw e
   .rw[Zs8];have:=bl2.2;omega
  .rw[j3 e]at c1;exact⟨S7,r7,Yj,Z1,at7,cZ c1,g7,D7,b5,by have:=HL.len;omega,z1t,b5,HM,b5,b5⟩
 let⟨S8,r8,a6,Z,Dw,h8,g8,D8,Afd,Zzd,zt,zl,Zv7,te',rdZ⟩:=s8;refine Rt.step h8 ?_;refine Rt.step (Zq (d:=.ref<|B S8) (M':=S8++[.L []]) tw) ?_;refine Rt.step (Zq (d:=.int 0) J) ?_;have r8l:r8<B S8:=(Yg.mp g8).1;have T0:G5 ns 0 1 (B S8) r8 Z p (S8++[.L []]) [] Dw 0 0:=⟨⟨D8.app _,Zm _ _ [],Zj g8 _,b5,b5,b5,b5⟩,rfl,λz=>k9 z<|LV _,nofun,Yu _,g_ _⟩;let⟨S9,Ls,at9,num,y9,h9,I⟩:=Zqa (v0:=O<|.bB<|ns.map D.int) (v2:=c8 v) (v3:=My nr) (v6:=a6) (it:=⟨lW 0<|B Z,Yj⟩) b5 b5 J (B Z) 0 (S8++[.L []]) [] Dw 0 Yj T0 b5 b5;have hr:ud nI [O<|.bB<|ns.map D.int,My 1,c8 v,My nr,My r8,c8 (p:Int),a6,My<|B S8,c8 0,Yj] (S8++[.L []])= .ok ⟨lW 0<|B Z,Yj⟩ (S8++[.L []]):=by have hl:aD aV oB [O<|.bB<|ns.map D.int,My 1,c8 v,My nr,My r8,c8 (p:Int),a6,My<|B S8,c8 0,Yj] (S8++[.L []])= .ok (.int (B Z:Int)) (S8++[.L []]):=(bR J<|jU T0.ts.hr).trans (by rw[Ym]);have:(B Z:Int)<=1000000/\ -1000000<=(B Z:Int):=⟨b5,b5⟩;simp only[ud,hl,R3.bind];simp[this]
 have er:lW 0 (B Z)=(tR 0<|B Z).map λ(i:Nat)=>D.int (i:Int):=by rw[lW,KP];simp
 rw[<-er]at h9;refine Rt.step ((BP hr).trans h9) ?_;have ZiZ:=I.gl_;rw[UT]at ZiZ;have HQ:=I.Cu;rw[UT]at HQ;let⟨wb',hb⟩:=I.nm rdZ;have Afe:Z[p]?=O wb:=by have:=congrArg (λl:List d6=>l[p]?) zt;simp only[yJ<|Es p]at this;rw[this,uW (by rw[lM];omega),lM,show p-gw p (B RW)=0 by omega];rfl
 have ewb:wb'=wb:=by have e:=congrArg (λl:List d6=>l[p]?) HQ;simp only[jg,hb,Afe]at e;exact fM e
 rw[ewb]at hb;have hL:((rowsOf 1 Ls).take p).map (·.2)=RW.take p:=by rw[A_,HQ];have:=congrArg (List.take p) zt;rwa[U4,show gw p (p+1)=p by omega,Kk (by rw[lM];omega),U4,Nat.min_self]at this
 have qA:Ls≠[]:=λe=>by rw[e]at hb;cases hb
 have f9:=I.len;rw[eRW]at hp hL;have told:=Zxt ZpU (M:=S9) hp i8 qA (λws h=>Zv7 ws<|I.mem ws h) b5 (Yi (ZpW 10 _) b5) hL hb;exact⟨S9,b7<|Fy (sG J J<|K_ I.ts.ht<|Yi (show j7 [10] (Ls.map bQ)<=11000 by rw[ZuL];omega) aaA) J<|Zq6 told⟩
end Law
set_option maxHeartbeats 400000
namespace Law
open PySem PySem.Spec PyProof.Rows L2 L3
variable{P:List Yh->Prop}
def uZ(h:P []):∀us:List Yh,B us=0->P us:=λus e=>(Nt e)▸h
def uS{n:Nat}(h:∀a us,B us=n->P (a::us))(us:List Yh)(e:B us=n+1):P us:=by
 cases us with
 |nil=>exact k9 e (Nat.succ_ne_zero n).symm|cons a us=>exact h a us<|VR e
variable{xa:aj}
def o5(h:∀a,P [a]):∀us:List Yh,B us=[xa].length->P us:=uS λa=>uZ<|h a
def Dy{xb:aj}(h:∀a b,P [a,b]):∀us:List Yh,B us=[xa,xb].length->P us:=uS λa=>uS λb=>uZ<|h a b
def HU{xb xc:aj}(h:∀a b c,P [a,b,c]):∀us:List Yh,B us=[xa,xb,xc].length->P us:=uS λa=>uS λb=>uS λc=>uZ<|h a b c
def HV{xb xc xd:aj}(h:∀a b c d,P [a,b,c,d]):∀us:List Yh,B us=[xa,xb,xc,xd].length->P us:=uS λa=>uS λb=>uS λc=>uS λd=>uZ<|h a b c d
def kN(s:Ydv):aj:=match s with
 | .FunctionDef n _ _ _ _ _ _ _ _ _=>n|_=>Ey
def kE(P:Params)(x:aj)(t:Nat)(v:Yh):DictEntry:=⟨PyData.keyHash P x,.str x t,v⟩
def kC(n q:aj)(r t l k u:Nat):aK:=⟨.type "code",Yj,.fields #[.str n t,.str q<|t+1,.str "/claim/cut.py"<|t+2,.int l 0,.int k 0,.int 0 0,.int 0 0,.int 3 0,.ref r,.bool true,.int 181 0,.ref<|r+1,.none,.ref<|r+2,.ref<|r+3,.ref<|r+4,.int u 0,.int l 0,.str "/claim/cut.py"<|u+1],#[]⟩
def ZiQ(n q:aj)(r t l k u:Nat):aK:=⟨.type "code",Yj,.fields #[.str n t,.str q<|t+1,.str "/claim/cut.py"<|t+2,.int l 0,.int k 0,.int 0 0,.int 0 0,.int 3 0,.ref r,.bool true,.int 181 0,.ref<|r+1,.none,.none,.none,.ref<|r+2,.int u 0,.int l 0,.str "/claim/cut.py"<|u+1],#[]⟩
def kF(s:Ydv)(n q:aj)(v m:Yh)(c:Nat):aK:=⟨.type "function",Yj,.func<|Hr n q (oA s) (jz s) (bJ s) v .none .none m Yj (.ref c) .none,#[]⟩
def kU(s:Ydv)(r t l k u:Nat):aK:=kC (kN s) (kN s) r t l k u
def kV(s:Ydv)(r t l k u:Nat):aK:=ZiQ (kN s) (kN s) r t l k u
def kG(s:Ydv)(m:Yh)(c:Nat):aK:=kF s (kN s) (kN s) .none m c
def gK(K:wF)(f c:Nat)(s:Ydv)(n:aj)(m:Yh):Prop:=d7 K Y7 n=O (O<|.ref f)/\K.lookup f=O (kF s n n .none m c)/\TF K (.ref c) n=true/\MF K (.ref f)=true
def dA{K:wF}{h:aH}{mg:aj->Option Yh}(X:K.In h)(G:h.Ns Y7 mg){f c:Nat}{s:Ydv}{n:aj}{m:Yh}{ps:List aj}(a:gK K f c s n m)(b:∀us:List Yh,B us=B ps->bindArgs (Hr n n (oA s) (jz s) (bJ s) .none .none .none m Yj (.ref c) .none) ⟨us,[]⟩=pure (ps.zip us)):gm K mg n s ps:=Ztc X G a.1 a.2.1 a.2.2.1 a.2.2.2<|Binds.all b
def kX(P:Params)(m:Yh)(a l e n:Nat):aK:=⟨.type "dict",Yj,.dict #[kE P "__module__" a m,kE P "__firstlineno__" (a+4)<|.int l<|a+3,kE P "__static_attributes__" (a+5)<|.ref e,kE P "__doc__" (a+6) .none] n,#[]⟩
def kT(x:aj)(a n b r t:Nat)(ZkG:List Yh):aK:=⟨.type "type",Yj,.cls ⟨x,[.ref b],[.ref a,.ref b,.type "ValueError",.type "Exception",.type "BaseException",.type "object"],n,x,true,[],ZkG,false,Yj,false⟩,#[O<|.ref r,Yj,O<|.str x t,O<|.str x<|t+8,O<|.builtin "ValueError.__new__",O<|.bool true]⟩
def Dz:Yh:=.str "stepledger.errors" 187
def kM1:Yh:=.str "stepledger.rolls" 353
def RM:Yh:=.str "stepledger.sums" 365
def ye:Yh:=.str "stepledger.texts" 406
def o6:Yh:=.str "law_stepledger_k63_bad_rows" 550
def k3(P:Params):aK:=⟨.type "dict",Yj,.dict #[kE P "__name__" 165<|.str "law_stepledger_k63_bad_rows" 550,kE P "__doc__" 166 .none,kE P "__package__" 167 .none,kE P "__loader__" 168<|.builtin "__main__.__loader__#opaque",kE P "__spec__" 169 .none,kE P "__annotations__" 170<|.ref 6,kE P "__builtins__" 171<|.ref 4,kE P "__file__" 173<|.str "/claim/cut.py" 172,kE P "__cached__" 174 .none,kE P "LedgerError" 206<|.ref 24,kE P "NoRoll" 222<|.ref 37,kE P "BadCut" 238<|.ref 49,kE P "NoTime" 254<|.ref 61,kE P "NoDispute" 270<|.ref 73,kE P "BadGiven" 286<|.ref 85,kE P "Spent" 302<|.ref 97,kE P "BadRow" 327<|.ref 116,kE P "Unfit" 352<|.ref 135,kE P "FIGURES" 356<|.str "0123456789" 355,kE P "MOST_FIGURES" 358<|.int 60 357,kE P "is_number" 364<|.ref 142,kE P "PARTS" 379<|.ref 143,kE P "sums_in" 385<|.ref 148,kE P "needs_sums" 392<|.ref 155,kE P "parts_of" 399<|.ref 162,kE P "depth" 405<|.ref 167,kE P "LETTERS" 409<|.str "abcdefghijklmnopqrstuvwxyz" 408,kE P "MOST_LETTERS" 411<|.int 8 410,kE P "MOST_TAKEN" 413<|.int 6 412,kE P "MOST_WORDS" 415<|.int 60 414,kE P "MOST_DEPTH" 417<|.int 6 416,kE P "MOST_BLOCKS" 419<|.int 12 418,kE P "WORDS" 432<|.ref 168,kE P "SUMS" 454<|.ref 169,kE P "LISTS" 461<|.ref 170,kE P "Block" 491<|.ref 187,kE P "read" 497<|.ref 196,kE P "read_taken" 503<|.ref 201,kE P "is_name" 509<|.ref 206,kE P "read_deeds" 521<|.ref 213,kE P "read_deed" 527<|.ref 218,kE P "read_sums" 533<|.ref 223,kE P "can_stand" 543<|.ref 230,kE P "place_deed" 549<|.ref 235,kE P "_law_next" 560<|.ref 242,kE P "_law_names" 577<|.ref 249,kE P "_law_value" 585<|.ref 256,kE P "_law_sum" 601<|.ref 263,kE P "_law_deed" 612<|.ref 270,kE P "_law_words" 618<|.ref 275,kE P "_law_closed" 631<|.ref 282,kE P "_law_row" 646<|.ref 289,kE P "_law_program" 652<|.ref 294,kE P "_law_taken" 658<|.ref 299,kE P "_law_no_word" 666<|.ref 306,kE P "_law_bad_sum" 680<|.ref 313,kE P "_law_bad_head" 686<|.ref 318,kE P "_law_bad" 695<|.ref 325,kE P "_law_refused" 705<|.ref 332,kE P "law" 721<|.ref 339] 60,#[]⟩
def Zw6{l:PySem.W.OpenLaw}{w:aQ}{K:wF}{h:aH}{mg:aj->Option Yh}{fa f0 f1 f2 f3 f4 f5 f6 f7 f8 hll f10 f11 f12 f13 f14 f15 f16 f17 f18 f19 f20 f21 f22 f23 f24 f25 f26 f27 f28:Yy}(X:K.In h)(G:h.Ns Y7 mg)(hfa:mg "law" =O (.ref fa)){od7 an7:Option Yy}{sl7:Array (Option Yh)}{oc7 kV7 dc7 pm7 cd7 ct7:Yh}{AcS AcT Ab5 Aca AbG AbH Acb Acd:gq}{dZ:Yy}{AaQ:Yy}{AaR:Yy}{AaU:Yy}{AaS:Yy}{fD jF jE bZ jD jG jH jJ jK jX:Yy}{AbI AcU Ack Sh Ace AcV AcW Adv Adw:ClassData}{AbJ AbK:aj}{Aaf:Yy}{AbL AbM:List Yh}{AbN AbO:Bool}{AbP:List aj}{AbQ:Option Bool}{AbR AbS:Option Yy}{AbT AbU AbV AbW AbX:Option Yh}{AbY:Yh}{RV:Array DictEntry}{AbZ:Nat}{Ab0:Array (Option Yh)}{AcX AcY:aj}{AaK:Yy}{AcZ Ac0:List Yh}{Ac1 Ac2:Bool}{Ac3:List aj}{Ac4:Option Bool}{Ac5 Ac6:Option Yy}{Ac7 Ac8 Ac9 Ada Adb:Option Yh}{Adc:Yh}{Sq:Array DictEntry}{Ade:Nat}{Adf:Array (Option Yh)}{AaH Adg Adh Adi AaI Adj:Yh}{Adk Adl:Option Yy}{Adm:Array (Option Yh)}{g0 g1 g2 g3 g4 g5 g6 g8 g9 g10 g11 g12 g13 g14 g15 g16 g17 g18 g19 g20 g21 g22 g23 g24 g25 g26 g27 g28:Nat}{m0 m1 m2 m3 m4 ZsO m6 m8 Znk m10 m11 m12 m13 m14 m15 m16 m17 m18 m19 m20 m21 m22 m23 m24 m25 m26 m27 m28:Yh}(AaJ:d7 K Y7 "Block" =O (O<|.ref dZ))(AcE:Mw K dZ Ey=true)(AcF:Mv K dZ=true)(AcG:Tp K dZ=true)(AcH:fJ K (.ref dZ) "__setattr__" =O (O<|.builtin "object.__setattr__"))(AcI:Mx K dZ=true)(AcJ:MF K (.ref dZ)=true)(Ab1:fJ K (.ref dZ) "head" =O Yj)(AbA:fJ K (.ref dZ) "lists" =O Yj)(a0:gK K f0 g0 J8 "is_number" m0)(a1:gK K f1 g1 J9 "sums_in" m1)(a2:gK K f2 g2 J_ "needs_sums" m2)(a3:gK K f3 g3 Ka "parts_of" m3)(a4:gK K f4 g4 Kc "depth" m4)(a5:gK K f5 g5 Kf "is_name" ZsO)(a6:gK K f6 g6 Ke "read_taken" m6)(a7:fJ K (.ref dZ) "__init__" =O (O<|.ref f7))(Zpw:Mz K (.ref f7)=true)(l7:K.lookup f7=O ⟨oc7,od7,.func<|Hr "__init__" "Block.__init__" (oA CQ) (jz CQ) (bJ CQ) .none kV7 dc7 pm7 an7 cd7 ct7,sl7⟩)(Zpr:TF K cd7 "Block.__init__" =true)(ZlJ:MF K (.ref f7)=true)(a8:gK K f8 g8 Kl "read_sums" m8)(a9:gK K hll g9 Kh "read_deed" Znk)(a10:gK K f10 g10 Km "can_stand" m10)(a11:gK K f11 g11 Ko "place_deed" m11)(a12:gK K f12 g12 Kg "read_deeds" m12)(a13:gK K f13 g13 Kd "read" m13)(a14:gK K f14 g14 Kq "_law_next" m14)(a15:gK K f15 g15 Kr "_law_names" m15)(a16:gK K f16 g16 Ks "_law_value" m16)(a17:gK K f17 g17 Ku "_law_sum" m17)(a18:gK K f18 g18 Kv "_law_deed" m18)(a19:gK K f19 g19 Kw "_law_words" m19)(a20:gK K f20 g20 Ky "_law_closed" m20)(a21:gK K f21 g21 Kz "_law_row" m21)(a22:gK K f22 g22 KC "_law_program" m22)(a23:gK K f23 g23 KD "_law_no_word" m23)(a24:gK K f24 g24 KH "_law_bad_sum" m24)(a25:gK K f25 g25 KJ "_law_bad_head" m25)(a26:gK K f26 g26 KN "_law_bad" m26)(a27:gK K f27 g27 KQ "_law_refused" m27)(C8:gK K f28 g28 xT "law" m28)(Acf:d7 K Y7 "ValueError" =O Yj)(AdZ:d7 K Y7 "all" =O Yj)(AdS:d7 K Y7 "bool" =O Yj)(Acl:d7 K Y7 "enumerate" =O Yj)(Ad0:d7 K Y7 "int" =O Yj)(Acg:d7 K Y7 "isinstance" =O Yj)(Ad1:d7 K Y7 "len" =O Yj)(AdT:d7 K Y7 "list" =O Yj)(Ad2:d7 K Y7 "max" =O Yj)(Ad3:d7 K Y7 "min" =O Yj)(AdE:d7 K Y7 "range" =O Yj)(Ad4:d7 K Y7 "set" =O Yj)(Ad5:d7 K Y7 "str" =O Yj)(AdF:d7 K Y7 "tuple" =O Yj)(v_:d7 K Y7 "FIGURES" =O (O<|.str "0123456789" AcS))(Af:d7 K Y7 "LETTERS" =O (O<|.str "abcdefghijklmnopqrstuvwxyz" AcT))(AdG:d7 K Y7 "LISTS" =O (O<|.ref AaQ))(Acm:oW K AaQ qT)(Ad:d7 K Y7 "MOST_BLOCKS" =O (O<|.int 12 Ab5))(uM:d7 K Y7 "MOST_DEPTH" =O (O<|.int 6 Aca))(qm:d7 K Y7 "MOST_FIGURES" =O (O<|.int 60 AbG))(uK:d7 K Y7 "MOST_LETTERS" =O (O<|.int 8 AbH))(v9:d7 K Y7 "MOST_TAKEN" =O (O<|.int 6 Acb))(uN:d7 K Y7 "MOST_WORDS" =O (O<|.int 60 Acd))(AdH:d7 K Y7 "PARTS" =O (O<|.ref AaR))(Acn:oW K AaR qU)(AdU:d7 K Y7 "SUMS" =O (O<|.ref AaU))(AcK:oW K AaU fj)(xO:d7 K Y7 "WORDS" =O (O<|.ref AaS))(Aco:Gi K (dG.map λy=>(⟨kb y⟩:aj)) (.ref AaS)=true)(AbB:d7 K Y7 "LedgerError" =O (O<|.ref fD))(AcL:d7 K Y7 "BadCut" =O (O<|.ref jF))(Ach:d7 K Y7 "BadGiven" =O (O<|.ref jE))(AaA:d7 K Y7 "BadRow" =O (O<|.ref bZ))(Ab6:d7 K Y7 "NoDispute" =O (O<|.ref jD))(AcM:d7 K Y7 "NoRoll" =O (O<|.ref jG))(AcN:d7 K Y7 "NoTime" =O (O<|.ref jH))(Adn:d7 K Y7 "Spent" =O (O<|.ref jJ))(Ado:d7 K Y7 "Unfit" =O (O<|.ref jK))(Abr:mW K fD=O AbI)(Abs:uQ K (.ref fD)=O (.type "type"))(Afg:gC K (.ref fD) (.ref fD)=O true)(Aaj:mW K jF=O AcU)(Aak:uQ K (.ref jF)=O (.type "type"))(Aal:gC K (.ref jF) (.ref jF)=O true)(Aag:mW K jE=O Ack)(Aah:uQ K (.ref jE)=O (.type "type"))(Aai:gC K (.ref jE) (.ref jE)=O true)(G7:mW K bZ=O Sh)(Aam:uQ K (.ref bZ)=O (.type "type"))(Aan:gC K (.ref bZ) (.ref bZ)=O true)(Aac:mW K jD=O Ace)(Aad:uQ K (.ref jD)=O (.type "type"))(Aae:gC K (.ref jD) (.ref jD)=O true)(Aao:mW K jG=O AcV)(Aap:uQ K (.ref jG)=O (.type "type"))(Aaq:gC K (.ref jG) (.ref jG)=O true)(Aar:mW K jH=O AcW)(Aas:uQ K (.ref jH)=O (.type "type"))(Aat:gC K (.ref jH) (.ref jH)=O true)(AaB:mW K jJ=O Adv)(AaC:uQ K (.ref jJ)=O (.type "type"))(AaD:gC K (.ref jJ) (.ref jJ)=O true)(AaE:mW K jK=O Adw)(AaF:uQ K (.ref jK)=O (.type "type"))(AaG:gC K (.ref jK) (.ref jK)=O true)(Abt:K.lookup fD=O (yx AbJ AbK fD Aaf AbL [.type "ValueError",.type "Exception",.type "BaseException",.type "object"] AbN AbP AbM AbO AbQ AbR AbT AbU AbV AbW AbX "ValueError.__new__"))(Abu:K.lookup Aaf=O ⟨AbY,AbS,.dict RV AbZ,Ab0⟩)(Abv:QJ RV=true)(Abw:nsFind RV "__init__" =Yj)(Acp:K.lookup bZ=O (yx AcX AcY bZ AaK AcZ [.ref fD,.type "ValueError",.type "Exception",.type "BaseException",.type "object"] Ac1 Ac3 Ac0 Ac2 Ac4 Ac5 Ac7 Ac8 Ac9 Ada Adb "ValueError.__new__"))(Acq:K.lookup AaK=O ⟨Adc,Ac6,.dict Sq Ade,Adf⟩)(Acr:QJ Sq=true)(Acs:nsFind Sq "__init__" =O (.ref jX))(Afj:fJ K (.ref bZ) "__init__" =O (O<|.ref jX))(Acu:K.lookup jX=O ⟨AaH,Adk,.func<|Hr "__init__" "BadRow.__init__" (oA vX) (jz vX) (bJ vX) .none Adg Adh Adi Adl AaI Adj,Adm⟩)(Acv:TF K AaI "BadRow.__init__" =true)(Acw:MF K (.ref jX)=true)(Acx:AaH= .type "function")(Aau:Sh.hasDict=true)(Acy:Sh.mro= .ref bZ:: .ref fD::PySem.W.uw)(Acz:fJ K (.ref bZ) "__setattr__" =O (O<|.builtin "object.__setattr__"))(Aav:fJ K (.ref bZ) "row" =O Yj)(AcA:D_ K (.ref fD) "__getattribute__" =O (O<|.builtin "type.__getattribute__"))(AcB:Tt K fD (.type "type")=true)(AcC:Tu K (.ref fD) (.type "type") "__init__" =O (.val<|.builtin "ValueError.__init__"))(Aaw:fJ K (.ref bZ) "__getattribute__" =O (O<|.builtin "BaseException.__getattribute__"))(Aax:fJ K (.ref bZ) "__getattr__" =O Yj)(Aay:wD K bZ (.type "BaseException")=O true)(AcD:fJ K (.ref bZ) "__class__" =O (O<|.builtin "object.__class__"))(Aaz:wD K bZ (.type "object")=O true)(Ad6:D_ K (.builtin "object.__class__") "__get__" =O (O<|.builtin "getset_descriptor.__get__"))(Ad7:Tr K (.builtin "object.__class__")=O true)(Abe:gC K (.ref fD) (.type "BaseException")=O true)(Abg:gC K (.ref bZ) (.ref fD)=O true)(Abm:gC K (.type "NoneType") (.ref bZ)=O false)(AbC:gC K (.ref bZ) (.ref bZ)=O true)(Abf:gC K (.type "NoneType") (.type "ValueError")=O false)(Abi:gC K (.ref bZ) (.type "ValueError")=O true)(Abx:gC K (.type "NoneType") (.ref jK)=O false)(Aby:gC K (.type "NoneType") (.ref jJ)=O false)(Abn:gC K (.type "NoneType") (.ref jH)=O false)(Abo:gC K (.type "NoneType") (.ref jG)=O false)(Abh:gC K (.type "NoneType") (.ref jD)=O false)(Abj:gC K (.type "NoneType") (.ref jE)=O false)(Abp:gC K (.type "NoneType") (.ref jF)=O false)(Ab2:gC K (.ref bZ) (.ref jK)=O false)(Ab3:gC K (.ref bZ) (.ref jJ)=O false)(AbD:gC K (.ref bZ) (.ref jH)=O false)(AbE:gC K (.ref bZ) (.ref jG)=O false)(Abk:gC K (.ref bZ) (.ref jD)=O false)(Abq:gC K (.ref bZ) (.ref jE)=O false)(AbF:gC K (.ref bZ) (.ref jF)=O false):
  ∃fd:lJ,(∀(s:Yl) (v:Yh),Ek s fd ⟨[v],[]⟩ [("script",v)])/\∀base:aH,K.In base->base.Ns Y7 mg->h_ l.prog w K mg base m_ 70 fa fd ["script"] (vI K 1 ZpJ):=by
 have e:=hfa.symm.trans<|jf X G C8.1;cases e;have T:Txt K mg:=⟨trivial,o8 X G Acf,o8 X G AdZ,o8 X G AdS,o8 X G Acl,o8 X G Ad0,o8 X G Acg,o8 X G Ad1,o8 X G AdT,o8 X G Ad2,o8 X G Ad3,o8 X G AdE,o8 X G Ad4,o8 X G Ad5,o8 X G AdF,⟨_,jf X G v_⟩,⟨_,jf X G Af⟩,⟨_,jf X G AdG,Acm⟩,⟨_,jf X G Ad⟩,⟨_,jf X G uM⟩,⟨_,jf X G qm⟩,⟨_,jf X G uK⟩,⟨_,jf X G v9⟩,⟨_,jf X G uN⟩,⟨_,jf X G AdH,Acn⟩,⟨_,jf X G AdU,AcK⟩,⟨_,jf X G xO,Aco⟩⟩;have eX:KR K mg dZ:=⟨⟨by unfold L3.ClsAt;rwa[show(⟨(sv:b9).toArray⟩:aj)= "Block" by decide +kernel],⟨AcE,AcF,AcG,AcH⟩,aaA⟩,jf X G AaJ,by rwa[show nm xS= "head" by decide +kernel],by rwa[show nm vx= "lists" by decide +kernel]⟩;have DR:ClsAt K sC bZ:=by unfold L3.ClsAt;rwa[show(⟨(sC:b9).toArray⟩:aj)= "BadRow" by decide +kernel]
 have Ss:zN K bZ:=⟨Aaw,Aax,Aay,by rw[G7];rfl,AcD,Ad6,Ad7,Aaz⟩;have XO:KY K mg fD jF jE bZ jD jG jH jJ jK jX:=⟨jf X G AbB,jf X G AcL,jf X G Ach,jf X G AaA,jf X G Ab6,jf X G AcM,jf X G AcN,jf X G Adn,jf X G Ado,Zyp DR Acp (λh Y=>⟨_,zi Y Acq Acr,Acs⟩) (λh Y=>.own (Y _ _ Abt) (zi Y Abu Abv) Abw<|.base) G7 Aau Acy Acz Aav Aaz AcA AcB AcC Acu Acv Acw Acx (Binds.all λus hl=>match us,hl with|[_,_],_=>rfl),Zqg DR Aaw Aax Aay G7 Aau Aav,(QK (P:=λC=>Tz K (.ref C) (.ref fD)=O true) DR (PySem.W.AeR Abr Abs Abe Abg) Cq),⟨(PySem.W.mV (PySem.W.mU G7 Aam Aan Abm) PySem.W.Mp),(QK (P:=λC=>zN K C/\yr K (.ref C) [.ref bZ]=O true) DR ⟨Ss,(PySem.W.ZU<|PySem.W.mU G7 Aam Aan AbC)⟩ Cq),Cq⟩,⟨(PySem.W.mV (PySem.W.ZT aaE (by first|rfl|decide) Abf) PySem.W.Mp),(QK (P:=λC=>zN K C/\yr K (.ref C) [.type "ValueError"]=O true) DR ⟨Ss,(PySem.W.ZU<|PySem.W.ZT aaE (by first|rfl|decide) Abi)⟩ Cq),Cq⟩,⟨(PySem.W.mV (PySem.W.mU Aaj Aak Aal Abp) (PySem.W.mV (PySem.W.mU Aag Aah Aai Abj) (PySem.W.mV (PySem.W.mU Aac Aad Aae Abh) (PySem.W.mV (PySem.W.mU Aao Aap Aaq Abo) (PySem.W.mV (PySem.W.mU Aar Aas Aat Abn) (PySem.W.mV (PySem.W.mU AaB AaC AaD Aby) (PySem.W.mV (PySem.W.mU AaE AaF AaG Abx) PySem.W.Mp))))))),Cq,(QK (P:=λC=>zN K C/\yr K (.ref C) (refsOf [jF,jE,jD,jG,jH,jJ,jK])=O false) DR ⟨Ss,(PySem.W.mV (PySem.W.mU Aaj Aak Aal AbF)<|PySem.W.mV (PySem.W.mU Aag Aah Aai Abq)<|PySem.W.mV (PySem.W.mU Aac Aad Aae Abk)<|PySem.W.mV (PySem.W.mU Aao Aap Aaq AbE)<|PySem.W.mV (PySem.W.mU Aar Aas Aat AbD)<|PySem.W.mV (PySem.W.mU AaB AaC AaD Ab3)<|PySem.W.mV (PySem.W.mU AaE AaF AaG Ab2) PySem.W.Mp)⟩ Cq)⟩⟩
 have Abz:QD K dZ "Block.__init__" CQ ya:=ZuC AcI AcJ a7 Zpw l7 Zpr ZlJ<|Binds.all<|Dy λ_ _=>rfl;refine⟨Hr "law" "law" (oA xT) (jz xT) (bJ xT) .none .none .none m28 Yj (.ref g28) .none,λs v=>.of_eq J,λbase _ _=>?_⟩;have Ma:=Zmf l.prog w base (dA X G a0<|o5 λ_=>rfl) T;have DQ:=ZoC l.prog w base (dA X G a1<|o5 λ_=>rfl) T;have RX:=Zk1 l.prog w base (dA X G a2<|o5 λ_=>rfl) T;have R_:=Zno l.prog w base (dA X G a3<|o5 λ_=>rfl) T DQ;have Sy:=Zr7 l.prog w base (dA X G a4<|o5 λ_=>rfl) T R_;have wg:=Zn6 l.prog w base (dA X G a5<|o5 λ_=>rfl) T;have LR:=Zlb l.prog w base (dA X G a6<|o5 λ_=>rfl) T XO wg;have Afh:=LR.fn;have DG:=ZhG l.prog w base eX Abz T;have R6:=Zl7 l.prog w base (dA X G a8<|o5 λ_=>rfl) T Ma DQ RX Sy wg;have R7:=ZlS l.prog w base (dA X G a9<|o5 λ_=>rfl) T wg R6;have R8:=Zma l.prog w base (dA X G a10<|Dy λ_ _=>rfl) T eX;have RZ:=Zk7 l.prog w base (dA X G a11<|Dy λ_ _=>rfl) T eX DG;have L_:=ZkS l.prog w base (dA X G a12<|Dy λ_ _=>rfl) T eX XO DG R7 R8 RZ;have Afi:=L_.fn;have Ml:=Zt0 l.prog w base (dA X G a13<|o5 λ_=>rfl) T LR L_;have Afl:=Ml.fn;have je:=ZlV l.prog w base (dA X G a14<|o5 λ_=>rfl) T;have R4:=Zk3 l.prog w base (dA X G a15<|o5 λ_=>rfl) T je;have R0:=Zk9 l.prog w base (dA X G a16<|o5 λ_=>rfl) T;have uO:=ZnL l.prog w base (dA X G a17<|HV λ_ _ _ _=>rfl) T je R0;have R9:=Zmt l.prog w base (dA X G a18<|HU λ_ _ _=>rfl) T uO;have Ae:=ZkQ l.prog w base (dA X G a19<|o5 λ_=>rfl) T;have DN:=Zkx l.prog w base (dA X G a20<|Dy λ_ _=>rfl) T;have Sd:=Znw l.prog w base (dA X G a21<|HV λ_ _ _ _=>rfl) T je uO R9 Ae DN;have RQ:=Zja l.prog w base (dA X G a22<|HV λ_ _ _ _=>rfl) T DN Sd;have DK:=Zjc l.prog w base (dA X G a23<|o5 λ_=>rfl) T;have RP:=Zjh l.prog w base (dA X G a24<|Dy λ_ _=>rfl) T je uO Ae DK;have RN:=Zin l.prog w base (dA X G a25<|HU λ_ _ _=>rfl) T je DK;have Mf:=ZmU l.prog w base (dA X G a26<|HU λ_ _ _=>rfl) T je RP RN;have RT:=Zi5 l.prog w base (dA X G a27<|Dy λ_ _=>rfl) T XO Ml;exact ZwP l.prog w base (Sr (st:=xT) C8.2.1 C8.2.2.1 C8.2.2.2) T je R4 RQ Mf RT
def kK:Params->wF:=λP=>(nat_lit 2,⟨.none,Yj,.dict #[] 0,#[]⟩)::
 (nat_lit 3,k3 P)::
 (nat_lit 23,⟨.type "dict",Yj,.dict #[kE P "__module__" 196<|.str "stepledger.errors" 187,kE P "__firstlineno__" 200<|.int 2 199,kE P "__static_attributes__" 201<|.ref 22,kE P "__weakref__" 203<|.ref 25,kE P "__doc__" 204 .none] 3,#[]⟩)::
 (nat_lit 24,⟨.type "type",Yj,.cls ⟨"LedgerError",[.type "ValueError"],[.ref 24,.type "ValueError",.type "Exception",.type "BaseException",.type "object"],23,"LedgerError",true,[],[.ref 37,.ref 49,.ref 61,.ref 73,.ref 85,.ref 97,.ref 116,.ref 135],false,Yj,false⟩,#[O<|.ref 15,Yj,O<|.str "LedgerError" 189,O<|.str "LedgerError" 197,O<|.builtin "ValueError.__new__",O<|.bool true]⟩)::
 (nat_lit 36,kX P Dz 214 4 35 2)::
 (nat_lit 37,kT "NoRoll" 37 36 24 28 207 [])::
 (nat_lit 48,kX P Dz 230 6 47 2)::
 (nat_lit 49,kT "BadCut" 49 48 24 40 223 [])::
 (nat_lit 60,kX P Dz 246 8 59 2)::
 (nat_lit 61,kT "NoTime" 61 60 24 52 239 [])::
 (nat_lit 72,kX P Dz 262 10 71 2)::
 (nat_lit 73,kT "NoDispute" 73 72 24 64 255 [])::
 (nat_lit 84,kX P Dz 278 12 83 2)::
 (nat_lit 85,kT "BadGiven" 85 84 24 76 271 [])::
 (nat_lit 96,kX P Dz 294 14 95 2)::
 (nat_lit 97,kT "Spent" 97 96 24 88 287 [])::
 (nat_lit 112,kC "__init__" "BadRow.__init__" 107 315 18 2 320)::
 (nat_lit 113,kF vX "__init__" "BadRow.__init__" .none Dz 112)::
 (nat_lit 115,⟨.type "dict",Yj,.dict #[kE P "__module__" 310<|.str "stepledger.errors" 187,kE P "__firstlineno__" 314<|.int 16 313,kE P "__init__" 322<|.ref 113,kE P "__static_attributes__" 324<|.ref 114,kE P "__doc__" 325 .none] 2,#[]⟩)::
 (nat_lit 116,kT "BadRow" 116 115 24 100 303 [])::
 (nat_lit 134,⟨.type "dict",Yj,.dict #[kE P "__module__" 335<|.str "stepledger.errors" 187,kE P "__firstlineno__" 339<|.int 21 338,kE P "__init__" 347<|.ref 132,kE P "__static_attributes__" 349<|.ref 133,kE P "__doc__" 350 .none] 2,#[]⟩)::
 (nat_lit 135,kT "Unfit" 135 134 24 119 328 [])::
 (nat_lit 141,kV J8 138 359 29 1 362)::
 (nat_lit 142,kG J8 kM1 141)::
 (nat_lit 143,⟨.type "dict",Yj,.dict #[kE P "add" 367<|.int 2 368,kE P "sub" 369<|.int 2 370,kE P "more" 371<|.int 2 372,kE P "cell" 373<|.int 1 374] 4,#[]⟩)::
 (nat_lit 147,kV J9 144 380 38 1 383)::
 (nat_lit 148,kG J9 RM 147)::
 (nat_lit 154,kU J_ 149 386 48 1 390)::
 (nat_lit 155,kG J_ RM 154)::
 (nat_lit 161,kU Ka 156 393 50 1 397)::
 (nat_lit 162,kG Ka RM 161)::
 (nat_lit 166,kV Kc 163 400 52 1 403)::
 (nat_lit 167,kG Kc RM 166)::
 (nat_lit 168,⟨.type "tuple",Yj,.seq #[.str "take" 420,.str "set" 421,.str "put" 422,.str "tell" 423,.str "when" 424,.str "else" 425,.str "while" 426,.str "end" 427,.str "add" 428,.str "sub" 429,.str "more" 430,.str "cell" 431] 0,#[]⟩)::
 (nat_lit 169,⟨.type "dict",Yj,.dict #[kE P "set" 433<|.int 1 434,kE P "put" 435<|.int 2 436,kE P "tell" 437<|.int 1 438,kE P "when" 439<|.int 1 440,kE P "else" 441<|.int 0 442,kE P "while" 443<|.int 1 444,kE P "end" 445<|.int 0 446] 7,#[]⟩)::
 (nat_lit 170,⟨.type "dict",Yj,.dict #[kE P "when" 455<|.int 2 456,kE P "while" 457<|.int 1 458] 2,#[]⟩)::
 (nat_lit 183,kC "__init__" "Block.__init__" 178 474 67 2 479)::
 (nat_lit 184,kF CQ "__init__" "Block.__init__" .none ye 183)::
 (nat_lit 186,⟨.type "dict",Yj,.dict #[kE P "__module__" 469<|.str "stepledger.texts" 406,kE P "__firstlineno__" 473<|.int 65 472,kE P "__init__" 481<|.ref 184,kE P "__static_attributes__" 484<|.ref 185,kE P "__dict__" 486<|.ref 188,kE P "__weakref__" 488<|.ref 189,kE P "__doc__" 489 .none] 4,#[]⟩)::
 (nat_lit 187,⟨.type "type",Yj,.cls ⟨"Block",[.type "object"],[.ref 187,.type "object"],186,"Block",true,[],[],false,Yj,false⟩,#[Yj,Yj,O<|.str "Block" 462,O<|.str "Block" 470,O<|.builtin "object.__new__",O<|.bool true]⟩)::
 (nat_lit 195,kV Kd 192 492 70 1 495)::
 (nat_lit 196,kG Kd ye 195)::
 (nat_lit 200,kV Ke 197 498 78 1 501)::
 (nat_lit 201,kG Ke ye 200)::
 (nat_lit 205,kV Kf 202 504 85 1 507)::
 (nat_lit 206,kG Kf ye 205)::
 (nat_lit 212,kU Kg 207 510 89 2 519)::
 (nat_lit 213,kG Kg ye 212)::
 (nat_lit 217,kV Kh 214 522 99 1 525)::
 (nat_lit 218,kG Kh ye 217)::
 (nat_lit 222,kV Kl 219 528 109 1 531)::
 (nat_lit 223,kG Kl ye 222)::
 (nat_lit 229,kU Km 224 534 117 2 541)::
 (nat_lit 230,kG Km ye 229)::
 (nat_lit 234,kV Ko 231 544 127 2 547)::
 (nat_lit 235,kG Ko ye 234)::
 (nat_lit 241,kU Kq 236 552 140 1 558)::
 (nat_lit 242,kG Kq o6 241)::
 (nat_lit 248,kU Kr 243 561 149 1 575)::
 (nat_lit 249,kG Kr o6 248)::
 (nat_lit 255,kU Ks 250 578 171 1 583)::
 (nat_lit 256,kG Ks o6 255)::
 (nat_lit 262,kU Ku 257 586 174 4 599)::
 (nat_lit 263,kG Ku o6 262)::
 (nat_lit 269,kU Kv 264 602 193 3 610)::
 (nat_lit 270,kG Kv o6 269)::
 (nat_lit 274,kV Kw 271 613 203 1 616)::
 (nat_lit 275,kG Kw o6 274)::
 (nat_lit 281,kU Ky 276 619 211 2 629)::
 (nat_lit 282,kG Ky o6 281)::
 (nat_lit 288,kU Kz 283 632 217 4 644)::
 (nat_lit 289,kG Kz o6 288)::
 (nat_lit 293,kV KC 290 647 234 4 650)::
 (nat_lit 294,kG KC o6 293)::
 (nat_lit 305,kU KD 300 659 260 1 664)::
 (nat_lit 306,kG KD o6 305)::
 (nat_lit 312,kU KH 307 667 265 2 678)::
 (nat_lit 313,kG KH o6 312)::
 (nat_lit 317,kV KJ 314 681 277 3 684)::
 (nat_lit 318,kG KJ o6 317)::
 (nat_lit 324,kU KN 319 687 298 3 693)::
 (nat_lit 325,kG KN o6 324)::
 (nat_lit 331,kU KQ 326 696 302 2 703)::
 (nat_lit 332,kG KQ o6 331)::
 (nat_lit 338,kU xT 333 706 313 1 719)::
 (nat_lit 339,kG xT o6 338)::[]
open PySem.W
abbrev pP:Y9:=PySem.Challenge.pw_stepledger_k63_bad_rows
def pQ:Y9:=view pP [1,2,3,4,5,6,7,8,9,11,12,13,15,16,17,18,19,21,22,23,24,25,26,27,28,29,30,31,32,33,34,35,36,37,38,40,41,42,43,44,45,46,47,48,49,50,51,52,53,54,55]
abbrev pL:List aj:=["PARTS","SUMS","LISTS"]
abbrev pA:List Yy:=[2,3,23,24,36,37,48,49,60,61,72,73,84,85,96,97,112,113,115,116,134,135,141,142,143,147,148,154,155,161,162,166,167,168,169,170,183,184,186,187,195,196,200,201,205,206,212,213,217,218,222,223,229,230,234,235,241,242,248,249,255,256,262,263,269,270,274,275,281,282,288,289,293,294,305,306,312,313,317,318,324,325,331,332,338,339]
def pX(s:Yl):Bool:=xlAt pQ [] s&&recOk (RowW.records PySem.Challenge.rw_stepledger_k63_bad_rows.row.toRowW) s
set_option maxHeartbeats 0
def hd0(w:aQ):BD pP pQ pL pX pA kK 3414 ⟨313,0,333,48⟩ (hW w false):=λos=>by kernel_rfl
def hd1(w:aQ):BD pP pQ pL pX pA kK 3414 ⟨313,0,333,48⟩ (hW w true):=λos=>by kernel_rfl
set_option maxHeartbeats 400000
end Law
open PySem PySem.W PyProof.Rows
set_option maxRecDepth 100000 in
set_option maxHeartbeats 0 in
theorem PySem.Challenge.cw_stepledger_k63_bad_rows_holds : PySem.Challenge.rw_stepledger_k63_bad_rows.Holds := by
 w_on
 refine holds_law aaD λsaid=>?_;refine holds_open (r:=PySem.Challenge.rw_stepledger_k63_bad_rows.row) (q:=Law.pQ) (loose:=Law.pL) (Xt:=Law.pX) (XP:=XL Law.pQ []) (YP:=Hook.says<|kHook Law.kK Law.pA λ_=>by kernel_rfl) (L3.Zw5 (N:=6952) J (λ_=>rfl) J J Law.hd0 Law.hd1) (Hook.of<|kHook Law.kK Law.pA λ_=>by kernel_rfl) (Hook.keeps _) (λs e=>xl_of s (Ybi.mp e).1) XL.keeps (by rfl) (by rfl) (by rfl) (λs e=>recFacts_of (Ybi.mp e).2) (by rfl) said aaD ⟨rfl,rfl,rfl,rfl,rfl,aaE⟩ ?hw ?hc
 case hw=>w_witness2
 k_fill
 refine L3.Zzm (l:=PySem.Challenge.rw_stepledger_k63_bad_rows) (k:=70) (F:=Law.ZpJ) J J ⟨rfl,aaA,aaA,rfl⟩ (λw h Y=>W.kIn_of Y) ?G Law.law_holds
 case G=>
  intro w mg fa h KX G A6;refine' Law.Zw6 KX G A6 ..
  all_goals try first|k_is|(refine⟨?_,?_,?_,?_⟩<;>k_is)
  all_goals first|rfl|decide +kernel
