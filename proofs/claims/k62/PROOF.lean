import PyProof.Rows.All
import Wide.All
import OpenK.AllK
import Wide.FinOn
import Lean
import PyProof.EqAt
import PyProof.EqKinds
import PyProof.TupleCall
import PySem.Challenge.RW_stepledger_k62_whole_shown_and_read
theorem qA0(_h:0=0:=by rfl):True:=trivial
def qA:=qA0._auto_1
theorem qB0(_h:0=0:=by decide):True:=trivial
def qB:=qB0._auto_1
open Option renaming some->Ya,none->Ym,isSome_iff_exists->Je,map_eq_some_iff->PN,map_some->PQ,getD_none->ZR,bind_some->ZS
open PySem.W renaming Frag->Yb,nsIn->bI,keepIn->dU,codeIn->dY,findIn->nJ,kia_one->pJ,emptyDict->tX,mg_none_of->pK,fnOf->dW,keepIn->tY,instObj->vH,fnOf->rR,hasDictIn->Jf,mg_of->nO,codeIn->EY,plainGet->Jg,makesIn->Jh,kitx_tuple->PX,methodObj->P_,plainOver->Qa,kitx_list->Qc,kitx_dict->Qd,cellsFrom_some->ZV,takerIn->Qe,isFn->Ji,lookIn->Qf,callWith_K->ZW,kitx_none->ZX,kitx_bool->ZZ,handedIn->Z0,kitx_int->Z1,kitx_str->Z2,kitOne->Z3,WalkO->Z4,mg_of->Z5
open List renaming mem_cons_self->Yc,mem_cons_of_mem->Yd,getElem?_eq_some_iff->Ye,length_append->Yf,getElem?_append_left->Yj,length_cons->Yk,mem_cons->Yo,getElem?_set_ne->Yp,size_toArray->Yq,replicate->Yr,map_cons->Ys,length_map->Yu,getElem?_set_self->Yw,mem_singleton->Yy,getElem?_eq_getElem->Y3,mem_append_right->iQ,mem_append->fj,append_assoc->gM,length_singleton->jj,all_eq_true->iw,mem_map->dZ,nodup_cons->iR,length_replicate->nP,nil_append->jk,set_cons_succ->lK,set_cons_zero->lM,map_append->jl,flatten_cons->kJ,foldl_cons->jG,getElem?_map->lO,lookup_cons->lQ,append_nil->kO,take_of_length_le->rT,mem_map_of_mem->qC,map_map->jH,all_cons->kW,range->iC,getElem?_append_right->xQ,any_cons->lR,cons_append->pM,getElem?_take_of_lt->xR,replicate_succ->tZ,not_mem_nil->qD,Nodup->jm,mem_append_left->vI,prefix_append->t7,drop_eq_getElem_cons->Ad,getElem?_replicate_of_lt->E_,mem_of_getElem?->xT,getElem_mem->t8,getD_eq_getElem?_getD->Fb,reverse_cons->vJ,length_set->t_,eq_nil_of_length_eq_zero->Jj,mem_flatMap->vK,getElem?_cons_succ->Fd,length_eq_zero_iff->Fe,ext_getElem?->xU,map_congr_left->Ae,map_eq_nil_iff->Af,nodup_append->Ag,map_nil->uc,getElem?_replicate->Jk,getElem?_cons_zero->Jl,length_reverse->Ff,length_take->Ah,prefix_refl->Ai,drop_eq_nil_of_le->Jm,length->ud,find?_cons->Aj,set_set->vL,getElem?_eq_none->Jo,foldl_append->Yes,getElem?_of_mem->Jp,map_reverse->Fg,range'->vM,length_nil->Fi,append_eq_nil_iff->Qg,lookup->xV,eraseIdxIfInBounds_toArray->Z6,length_range->Jq,filterMap_cons->Qh,mem_filterMap->Qi,mem_range->Jr,drop_zero->Js,nodup_nil->Jt,flatMap_cons->Qj,prefix_iff_eq_take->Z7,getLast?_replicate->Z8,drop_length->Qk,mem_flatten->Ql,mem_reverse->Qm,range_succ_eq_map->Z9,flatten_singleton->Z_,of_mem_zip->Qn,dropLast_eq_take->Yio,getElem?_toArray->Yiw,isPrefixOf->Qo,reverse_reverse->Yjb,take_succ_cons->Yjz,flatten_append->Yj3,filterMap_map->Yka,take_sublist->Yks,foldl->Ju,mem_range'_1->Yk2,getElem?_inj->Yk3,all_nil->Qp,map_id'->Qq,getElem_inj->Yli,length_drop->Yln,range'_succ->Ylu,map_flatten->Ylv,mem_filter->Yl0,map_id->Qs
open PySem renaming wpAny_bind->Yg,Value->Yh,Shared->Yl,wpAny_pure->Yv,mainGlobals->Yx,starEach->Yz,Addr->Y4,wpAny->ao,sizeLine->bG,Program->bR,model->aB,wpAny_holding->iD,Around->bW,compareOp->d7,keywordEach->i_,wpAny_loadPart'->rW,wpAny_truthy_bool->qF,bootBuiltins->kY,World->bJ,mem_of_lookup->uf,attributeBase->nQ,wpAny_callSpecial?_slot->xW,assignEach->jJ,backTo->cN,wpAny_mono->j7,wpAny_newObj_type->ug,wpAny_pyIter_list->vN,binaryOp->jb,backToKw->jc,wpAny_call_entry->vO,eval->aM,wpAny_Call_Name_kw->Ak,strValues->mG,Heap->aR,wpAny_passesOwn->xX,foldedSetIterable->Al,wpAny_comprehension_free->Jv,wpAny_pyIter_enum->Am,codeAny_builtin->xY,wpAny_standAt->vP,FuncData->lU,call_meets->qG,codeAny_mono->vQ,wpAny_field->uh,Stmt->Yep,behindInMarks->xZ,wpAny_letOwnedTupleGo_enum->Qt,codeAny_call_builtin->Jw,letOwnedTupleGo->Fj,wpAny_pyIter_tuple->Jx,assign->jK,codeAny->nR,sliceBounds->x_,slicePicked->yc,wpAny_seqItems->Fl,wpAny_tryCatch->Fo,plainId_quiet->Fp,typeIs_str->yd,wpAny_execs_nil->Jy,swapsWith->vR,sizeLine_eq->Ao,getItem->qH,intText?->Jz,wpAny_assign_Name->Qu,wpAny_sequenceKey->Qv,wpAny_pyNext_enum_itemD->Yhi,noFill_tuple_add->Qw,wpAny_pyNext_list_item->Yhw,cLine->jL,codeAny_compStart_list->Yh1,wpAny_pyNext_list_end->Yid,wpAny_specialOf->Qx,exec_Assign_Name_used->Yim,weight_type_call_type->Yit,wpAny_updateSeq->Qy,wpAny_call->Fq,wpAny_newFunctionEnv->Yi9,newFunctionEnv->Qz,holding->vU,subscripted->JB,callerA->vV,relabel->vW,wpAny_of_eq->JC,dictGet->vX,wpAny_letGo->JD,swapsWithSole->QB,swappedStores->QC,seq_tuple_add->QD,wpAny_missed_other->Ykl,wpAny_rule->JF,wpAny_dictEntries->Yk1,Within->QF,pyNext->ul,Result->um,concat_meets->QG,wpAny_typeOf->QH,seqIndex_neg->QJ,wpAny_pyHash_int->Ylg,wpAny_pyHash_str->Ylh,wpAny_execs_cons->Ylj,wpAny_isInstance->Ylr,checkBuiltinCall->Yls,compEnvC->Ft,rawInt->vY,BindsTo->Aq,seqIndex_of->QK,valueAt->Ar,wpAny_stack_any->Ymc,codeAny_of_tree->Yme,wpAny_dictEpoch->Ymf,builtinsNs->QL,wpAny_Name->QM,typeIs_int->QQ,call->QR,IsEnum->ye,standAt->Fv,compPost->JG,callWith->JH,contains->JK,pyIter->Av,cellsFrom->QS,seqIndex?->QT,scanBound->QV,spliced->JL,unaryOp->JM,evalAll->JN,bindL->vZ,bindC->v4,atKey->v5,newList->JP,Str->aj,Obj->aP,Env->gj,Sem->pN,Pos->aZ,Tok->gw
open Nat renaming le_trans->Yi,le_refl->Yt,le_antisymm->Y1,lt_of_lt_of_le->Y8,sub_add_cancel->Y9,ne_of_lt->d8,le_add_right->jd,zero_le->fC,le_of_not_lt->j8,le_of_eq->j9,succ_le_succ->pO,lt_of_le_of_lt->rY,le_succ_of_le->rZ,add_comm->mH,lt_trans->nT,add_assoc->qI,eq_of_beq_eq_true->Aw,beq->iT,lt_irrefl->v6,zero_add->v7,le_add_left->Ax,mul_div_le->Ay,lt_succ_self->Fw,lt_add_right->Fx,le_succ->v8,min_eq_left->Fy,lt_succ_of_le->JQ,le_of_lt->Az,lt_of_not_le->JR,strongRecOn->JS,ne_of_gt->Fz,lt_of_le_of_ne->QW,toDigits_of_lt_base->Yhl,min_eq_right->QX,min_le_right->QZ,succ_ne_self->Q0,ble->uo,le_of_ble_eq_true->Yh6,min_le_left->Q3,sub_eq_zero_of_le->Yin,toDigits->JT,add_zero->JV,sub_le->FJ,mod_lt->FN,add_le_add_right->Yi3,mul_le_mul_left->Yjf,pos_of_ne_zero->Ykm,le_of_lt_succ->Yk0,toList_repr->Ymh,add_le_add->Ymi
open PySem.Heap renaming get?_push_of_some->Yn,get?_push_size->Y5,lt_size->Y7,get?_update_other->uq,size_push->yg,get?_update_self->JW,SameBut->A_,ExtBut->Q4
open Classical renaming propDecidable->Y0
open Option.some renaming inj->Y2,injEq->Ykz
open Bool renaming and_eq_true->Y6,false_ne_true->mJ,and_eq_true_iff->v9,false_eq_true->Ba,or_eq_true->yh,and_false->yj,beq_eq_decide_eq->JX,or_false->JZ,and_true->J0,eq_iff_iff->Q5,false_and->Q6,true_and->Q7,not_eq_true'->Yky,not_eq_true->Ylt,false_or->Ymy
open Int renaming toNat_of_nonneg->nU,toNat_natCast->su,emod_lt_of_pos->ur,le_antisymm->qJ,emod_nonneg->qK,self_le_toNat->v_,natCast_nonneg->FP,le_of_eq->wg,ofNat_le->Bb,zero_add->Bc,add_zero->Bd,not_le->Be,lt_mul_ediv_self_add->Yg9,le_of_lt->J1,natCast_add->Q8,mul_zero->J2,natCast_mul->Q9,ofNat_lt->J3,lt_of_lt_of_le->Yj4,sub_zero->Q_,min_eq_left->Yly,mul_add->Ra,add_le_add->Ymj,not_lt->Rb
open List.cons renaming inj->je,injEq->Yma
open Ne renaming symm->dw
open False renaming elim->jM
open PySem.Builtin.List renaming listTooLong->Bf
open PySem.Builtin.Str renaming occurrences->Bg,strSliceIndices->J4,partsBetween->Yha,tooLong->Yju,strKind->Yjv
open PyProof.Rows renaming slot_tuple_getitem->J5,callWith_type1->Rc,slot_tupleiter_next->J6,signs_ofString->Ygg,evalArgs_kwB->Ygz,kindOf->nW,subscriptTail_builtinR->Yhz,AllBare->ut,envOfC->pP,entry_tupleiter_next->Yja,entry_tuple_getitem->Yjh,args_tupleiter_next->Yjw,args_tuple_getitem->Ykb,subscriptTail->Rf,Subscript_->Rg
open PySem.Str renaming length->mK,ofString->qL
open PyProof.Rows.KTD renaming datumAt->oY,TabOf->qM,tab_of_look->Ymd
open PySem.NumText renaming digitsVal->FQ
open PyProof.Rows.F renaming plain_set_update_loop->Rh,entry_set_update_loop->Yey
open PySem.F renaming plain_max_loop->yo,plainAttrs_str->J7,slot_enumerate_next->J8,args_tuple_add_2->Ri,entry_tuple_add->Rj,plainAttrs_list->Rk,slot_tuple_add->Rm,slot_str_join->Rn,slot_dict_get->Ro,slot_dict_contains->Ygl,args_str_split_2->Rp,slot_dict_getitem->Yg0,entry_str_split->Rq,args_enumerate_next_1->Yhj,args_dict_get_3->Yhk,slot_str_split->Rr,entry_max_loop->Ru,entry_enumerate_next->Yh2,entry_dict_get->Yh3,type_str_join->Yiq,entry_enumerate_new->Yir,args_list_extend_2->Yi8,entry_list_extend->Yjr,slot_list_extend->Ykg,called_enumerate->Yki,entry_list_pop->Ylp,slot_list_pop->Yl5,slot_int_rmul->Yl6
open PySem.Builtin.Slice renaming slicePlaces->J9,sliceAdjust->Rv,sliceApplied->Ygi
open PySem.Builtin.SmallTypes renaming nextOf->J_
open PySem.Around renaming under_plainId->FT,under_plain->Ykk,under->Rx
open PySem.Builtin.Tuple renaming tupleExact->Ka,tupleItemsOf->Ygj
open PySem.SeqAt renaming EqAt->sy,notIn_listAt->Ykf,in_listAt->Yl4
open Array renaming length_toList->Kc,toList->Bh,getElem?_toList->Ry,mem_of_getElem?->Yiu,append_assoc->Yj5
open PySem.SeqAt.EqAt renaming str_int->Kd,int_str->Rz,same->RB,none_bool->Yi4,bool_none->Yi5,bool_bool->Yi6,none_int->Yjj,none_str->Yjk,bool_int->Yjl,bool_str->Yjm,int_none->Yjn,int_bool->Yjo,str_none->Yjp,str_bool->Yjq,int_int->Ykd,str_str->Yke
open PySem.Calls renaming callWith_builtin->RD,Name_function_global->Ygh,spliced_cons->RG,evalArgs_plain->Yi7,spliced_nil->Ykr
open PySem.Obj renaming mapSeq->yp,data_mapFields->Ykh
open PySem.SeqAt.RcNeAt renaming lists_lengths->Ygk
open Decidable renaming byContradiction->Ygx
open OfNat renaming ofNat->FW
open Eq renaming trans->wj
open PySem.StrLaws renaming glued_eq_join->Yip,found_one->Ykv
open PySem.Heap.SameBut renaming update->Yjx
open PySem.Builtin.Dict renaming missed->Yj1
open PySem.Code renaming quiet_builtin->Ykj,isFrame->RJ
open Prod.mk renaming injEq->RK
open PySem.SeqAt.RcAt renaming tuples->Yku
open PySem.Walks renaming list->Ke
open Nat.succ renaming inj->RL
open ToString renaming toString->FZ
open PySem.Txt renaming split->Yl8,startswith->Yml
open PySem.PassesOwn renaming never->Yl9
open Char renaming toNat->RM
open PySem.Paired renaming length->Ymu
open Min renaming min->jN
namespace _L3
set_option compiler.extract_closed false
set_option genSizeOf false in
set_option genInjectivity false in
inductive AE where
 |v (i:Nat)
 |k (n:Nat)
 |a (x y:AE)
 |m (n:Nat) (x:AE)
noncomputable def Kf:List Nat->Nat->Nat
 |[],_=>0|x::_,0=>x|_::l,n+1=>Kf l n
noncomputable def AE.ev(c:List Nat):AE->Nat
 | .v i=>Kf c i|.k n=>n|.a x y=>x.ev c+y.ev c|.m n x=>n*x.ev c
noncomputable def aL:List Nat->List Nat->List Nat
 |[],r=>r|x::l,[]=>x::l|x::l,y::r=>(x+y)::aL l r
noncomputable def sL(n:Nat):List Nat->List Nat
 |[]=>[]|x::l=>(n*x)::sL n l
noncomputable def uL:Nat->List Nat
 |0=>[1]|n+1=>0::uL n
noncomputable def AE.li:AE->List Nat
 | .v i=>0::uL i|.k n=>[n]|.a x y=>aL x.li y.li|.m n x=>sL n x.li
noncomputable def dt:List Nat->List Nat->Nat
 |x::c,y::l=>x*y+dt c l|[],_=>0|_,[]=>0
noncomputable def yq:List Nat->List Nat->Bool
 |[],_=>true|x::l,[]=>uo x 0&&yq l []|x::l,y::r=>uo x y&&yq l r
theorem pQ:∀c,dt c []=0
 |[]=>rfl|_::_=>rfl
theorem sE:∀c l r,dt c (aL l r)=dt c l+dt c r
 |c,[],r=>by rw[pQ,v7];rfl|c,x::l,[]=>by rw[pQ];rfl|[],x::l,y::r=>rfl|z::c,x::l,y::r=>by show z*(x+y)+dt c (aL l r)=_;rw[sE c l r,Nat.mul_add];exact Nat.add_add_add_comm _ _ _ _
theorem F_(n:Nat):∀c l,dt c (sL n l)=n*dt c l
 |c,[]=>by rw[pQ];exact pQ c|[],x::l=>rfl|z::c,x::l=>by show z*(n*x)+dt c (sL n l)=n*(z*x+dt c l);rw[F_ n c l,Nat.mul_add,Nat.mul_left_comm]
theorem ZuE:∀c i,dt c (uL i)=Kf c i
 |[],0=>rfl|[],_+1=>rfl|x::c,0=>by show x*1+dt c []=x;rw[pQ,Nat.mul_one];rfl|x::c,n+1=>by show x*0+dt c (uL n)=Kf c n;rw[ZuE c n,Nat.mul_zero,v7]
theorem Bj:∀c l r,yq l r=true->dt c l<=dt c r
 |c,[],r,_=>by rw[pQ];exact fC _|[],x::l,r,_=>fC _|z::c,x::l,[],h=>by have h:=(Y6 _ _).mp h;have e:x=0:=Nat.le_zero.1 (Yh6 h.1);have i:=Bj c l [] h.2;rw[pQ]at i;show z*x+dt c l<=0;rw[e,Nat.le_zero.1 i];exact Yt 0|z::c,x::l,y::r,h=>
  have h:=(Y6 _ _).mp h
  Ymi (Yjf z (Yh6 h.1)) (Bj c l r h.2)
theorem AE.fL(c:List Nat):∀e:AE,dt (1::c) e.li=e.ev c
 | .v i=>(v7 _).trans (ZuE c i)|.k n=>by show 1*n+dt c []=n;rw[pQ,Nat.one_mul];rfl|.a x y=>(sE _ _ _).trans (congr (congrArg _ (x.fL c)) (y.fL c))|.m n x=>(F_ n _ _).trans (congrArg _ (x.fL c))
noncomputable def b7:Nat->Nat->AE×Nat
 |0,s=>(.k 0,s)|f+1,s=>bif uo (s % 16) 9 then(.v (s % 16),s / 16)else bif iT (s % 16) 10 then(.k 1,s / 16)
  else bif iT (s % 16) 11 then(.k (s / 256 % 16^(s / 16 % 16)),s / 256 / 16^(s / 16 % 16))
  else bif iT (s % 16) 12 then(.a (b7 f (s / 16)).1 (b7 f (b7 f (s / 16)).2).1,(b7 f (b7 f (s / 16)).2).2)
  else bif iT (s % 16) 13 then(.m (s / 16 % 256) (b7 f (s / 4096)).1,(b7 f (s / 4096)).2)
  else(.k 0,s / 16)
noncomputable def Ga:Nat->Nat->Nat->Prop
 |0,x,y=>x<=y|1,x,y=>x<y|2,x,y=>x=y|3,x,y=>x=y
 |4,x,y=>¬x<=y|5,x,y=>¬x<y|_,_,_=>False
noncomputable def RN:Nat->AE->AE->List Nat
 |0,x,_=>x.li|1,x,_=>aL [1] x.li|2,x,_=>x.li|4,_,y=>aL [1] y.li
 |_,_,y=>y.li
noncomputable def Gb:Nat->AE->AE->List Nat
 |0,_,y=>y.li|1,_,y=>y.li|2,_,y=>y.li|_,x,_=>x.li
noncomputable def uv(c:List Nat):Nat->Nat->Prop
 |0,s=>Ga (s % 16) ((b7 9 (s / 16)).1.ev c) ((b7 9 (b7 9 (s / 16)).2).1.ev c)|n+1,s=>Ga (s / 16 % 16) ((b7 9 (s / 256)).1.ev c) ((b7 9 (b7 9 (s / 256)).2).1.ev c)->uv c n (b7 9 (b7 9 (s / 256)).2).2
noncomputable def gN:Nat->AE->AE->List Nat->List Nat->Bool
 |0,x,y,L,R=>yq (aL R x.li) (aL L y.li)|1,x,y,L,R=>yq (aL [1] (aL R x.li)) (aL L y.li)|_,_,_,L,R=>yq (aL [1] R) L
noncomputable def uw:Nat->Nat->List Nat->List Nat->Bool
 |0,s,L,R=>gN (s % 16) (b7 9 (s / 16)).1 (b7 9 (b7 9 (s / 16)).2).1 L R|n+1,s,L,R=>uw n (b7 9 (b7 9 (s / 256)).2).2 (aL L (sL (s % 16) (RN (s / 16 % 16) (b7 9 (s / 256)).1 (b7 9 (b7 9 (s / 256)).2).1))) (aL R (sL (s % 16) (Gb (s / 16 % 16) (b7 9 (s / 256)).1 (b7 9 (b7 9 (s / 256)).2).1)))
theorem Gd(c l:List Nat):dt (1::c) (aL [1] l)=dt (1::c) l+1:=by rw[sE];show 1*1+dt c []+_=_;rw[pQ];exact mH _ _
theorem Zrr(c:List Nat)(x y:AE):∀r,Ga r (x.ev c) (y.ev c)->dt (1::c) (RN r x y)<=dt (1::c) (Gb r x y)
 |0,h=>by show dt _ x.li<=dt _ y.li;rw[x.fL,y.fL];exact h|1,h=>by show dt _ (aL [1] x.li)<=dt _ y.li;rw[Gd,x.fL,y.fL];exact h|2,h=>by show dt _ x.li<=dt _ y.li;rw[x.fL,y.fL];exact j9 h|3,h=>by show dt _ y.li<=dt _ x.li;rw[x.fL,y.fL];exact j9 h.symm
 |4,h=>by show dt _ (aL [1] y.li)<=dt _ x.li;rw[Gd,x.fL,y.fL];exact JR h|5,h=>by show dt _ y.li<=dt _ x.li;rw[x.fL,y.fL];exact j8 h|_+6,h=>h.elim
theorem Zye(c:List Nat)(x y:AE)(L R:List Nat)(h:dt (1::c) L<=dt (1::c) R):∀r,gN r x y L R=true->Ga r (x.ev c) (y.ev c)
 |0,k=>by have e:=Bj (1::c) _ _ k;rw[sE,sE,x.fL,y.fL]at e;exact Nat.le_of_add_le_add_left (Yi e (Yi3 h _))|1,k=>by have e:=Bj (1::c) _ _ k;rw[Gd,sE,sE,x.fL,y.fL]at e;exact Nat.lt_of_add_lt_add_left (Yi e (Yi3 h _))|r+2,k=>by have e:=Bj (1::c) _ _ k;rw[Gd]at e;exact absurd (Yi e h) (Nat.not_succ_le_self _)
theorem arN(c:List Nat):∀(n s:Nat) (L R:List Nat),dt (1::c) L<=dt (1::c) R->uw n s L R=true->uv c n s
 |0,s,L,R,h,k=>Zye c _ _ L R h _ k|n+1,s,L,R,h,k=>λg=>arN c n _ _ _ (by rw[sE,sE,F_,F_];exact Ymi h (Yjf _ (Zrr c _ _ _ g))) k
end _L3
theorem lN(c:List Nat)(n s:Nat)(h:_L3.uw n s [] []=true):_L3.uv c n s:=_L3.arN c n s [] [] (Yt _) h
theorem gO(a b:Nat):a<=a-b+b:=Nat.le_add_of_sub_le (Yt _)
theorem T1:true=true:=rfl
theorem lA{a:Nat}(n s:Nat)(y:_L3.uw n s [] []=true):_L3.uv [a] n s:=lN _ n s y
theorem lB{a b:Nat}(n s:Nat)(y:_L3.uw n s [] []=true):_L3.uv [a,b] n s:=lN _ n s y
theorem lC{a b c:Nat}(n s:Nat)(y:_L3.uw n s [] []=true):_L3.uv [a,b,c] n s:=lN _ n s y
theorem lD{a b c d:Nat}(n s:Nat)(y:_L3.uw n s [] []=true):_L3.uv [a,b,c,d] n s:=lN _ n s y
theorem lE{a b c d e:Nat}(n s:Nat)(y:_L3.uw n s [] []=true):_L3.uv [a,b,c,d,e] n s:=lN _ n s y
theorem lF{a b c d e f:Nat}(n s:Nat)(y:_L3.uw n s [] []=true):_L3.uv [a,b,c,d,e,f] n s:=lN _ n s y
theorem clA(w:Int):max w 0=(w.toNat:Int):=(Int.ofNat_toNat w).symm
theorem clB(v:Int)(n:Nat)(h:¬v<0):jN v (n:Int)=((jN v.toNat n:Nat):Int):=by
 obtain⟨k,rfl⟩:=Int.eq_ofNat_of_zero_le (Rb.1 h);rcases Nat.le_total k n with z|z
 .rw[Yly (Bb.2 z)];exact congrArg Int.ofNat (Fy z).symm
 .rw[Int.min_eq_right (Bb.2 z)];exact congrArg Int.ofNat (QX z).symm
theorem RP(v:Int)(n:Nat)(h:v<0):max 0 (jN (v+(n:Int)) (n:Int))=((v+(n:Int)).toNat:Int):=by rw[Yly (J1 (Yj4 (Int.add_lt_add_right h _) (wg (Bc _)))),Int.max_comm];exact clA _
theorem RQ(v:Int)(n:Nat)(h:¬v<0):max 0 (jN v (n:Int))=((jN v.toNat n:Nat):Int):=by rw[clB v n h];exact Int.max_eq_right (FP _)
namespace _L3
set_option genSizeOf false in
set_option genInjectivity false in
inductive AI where
 |v (i:Nat)
 |k (n:Nat)
 |c (e:AE)
 |a (x y:AI)
 |s (x y:AI)
 |g (x:AI)
 |m (n:Nat) (x:AI)
noncomputable def Ge:List Int->Nat->Int
 |[],_=>0|x::_,0=>x|_::l,n+1=>Ge l n
noncomputable def AI.ev(c:List Nat)(d:List Int):AI->Int
 | .v i=>Ge d i|.k n=>Int.ofNat n|.c e=>((e.ev c:Nat):Int)|.a x y=>x.ev c d+y.ev c d
 | .s x y=>x.ev c d-y.ev c d|.g x=>-x.ev c d|.m n x=>Int.ofNat n*x.ev c d
noncomputable def pL(u w:List Nat×List Nat):List Nat×List Nat:=(aL u.1 w.1,aL u.2 w.2)
noncomputable def AI.li:AI->Bool->List Nat×List Nat
 | .v i,b=>bif b then([],uL i)else([],[])|.k n,b=>bif b then([n],[])else([],[])|.c e,b=>bif b then(e.li,[])else([],[])|.a x y,b=>pL (x.li b) (y.li b)
 | .s x y,b=>pL (x.li b) (y.li (!b))|.g x,b=>x.li (!b)|.m n x,b=>(sL n (x.li b).1,sL n (x.li b).2)
noncomputable def fD:List Int->List Nat->Int
 |x::c,y::l=>x*(y:Int)+fD c l|[],_=>0|_,[]=>0
noncomputable def dI(c:List Nat)(d:List Int)(u:List Nat×List Nat):Int:=((dt (1::c) u.1:Nat):Int)+fD d u.2
theorem Zut(p q r s:Int):p+q+(r+s)=p+r+(q+s):=by omega
theorem pR:∀c,fD c []=0
 |[]=>rfl|_::_=>rfl
theorem Zr9:∀c l r,fD c (aL l r)=fD c l+fD c r
 |c,[],r=>by rw[pR,Bc];rfl|c,x::l,[]=>by rw[pR,Bd];rfl|[],x::l,y::r=>rfl|z::c,x::l,y::r=>by show z*((x+y:Nat):Int)+fD c (aL l r)=(z*x+fD c l)+(z*y+fD c r);rw[Zr9 c l r,Q8,Ra];exact Zut _ _ _ _
theorem Zst(n:Nat):∀c l,fD c (sL n l)=Int.ofNat n*fD c l
 |c,[]=>by rw[pR,J2];exact pR c|[],x::l=>(J2 _).symm|z::c,x::l=>by show z*((n*x:Nat):Int)+fD c (sL n l)=Int.ofNat n*(z*x+fD c l);rw[Zst n c l,Ra,Q9,Int.mul_left_comm];rfl
theorem ZrM:∀c i,fD c (uL i)=Ge c i
 |[],0=>rfl|[],_+1=>rfl|x::c,0=>by show x*1+fD c []=x;rw[pR,Int.mul_one,Bd]|x::c,n+1=>by show x*0+fD c (uL n)=Ge c n;rw[ZrM c n,J2,Bc]
section
variable (c:List Nat) (d:List Int)
theorem lV(u w:List Nat×List Nat):dI c d (pL u w)=dI c d u+dI c d w:=by show((dt (1::c) (aL u.1 w.1):Nat):Int)+fD d (aL u.2 w.2)=_;rw[sE,Zr9,Q8];exact Zut _ _ _ _
theorem Kg(n:Nat)(u:List Nat×List Nat):dI c d (sL n u.1,sL n u.2)=Int.ofNat n*dI c d u:=by show((dt (1::c) (sL n u.1):Nat):Int)+fD d (sL n u.2)=_;rw[F_,Zst,Q9];exact(Ra _ _ _).symm
theorem RT:dI c d ([],[])=0:=by show((dt (1::c) []:Nat):Int)+fD d []=0;rw[pQ,pR];rfl
theorem Zu1(p q r s:Int):p-q+(r-s)=p+r-(q+s):=by omega
theorem ZqL(p q r s:Int):p-q-(r-s)=p+s-(q+r):=by omega
theorem AI.fL:∀e:AI,e.ev c d=dI c d (e.li true)-dI c d (e.li false)
 | .v i=>by show Ge d i=dI c d ([],uL i)-dI c d ([],[]);rw[RT,Q_];show _=((dt (1::c) []:Nat):Int)+fD d (uL i);rw[pQ,ZrM];exact(Bc _).symm|.k n=>by show Int.ofNat n=dI c d ([n],[])-dI c d ([],[]);rw[RT,Q_];show _=((dt (1::c) [n]:Nat):Int)+fD d [];rw[pR,Bd];show _=((1*n+dt c []:Nat):Int);rw[pQ,Nat.one_mul];rfl|.c e=>by show((e.ev c:Nat):Int)=dI c d (e.li,[])-dI c d ([],[]);rw[RT,Q_];show _=((dt (1::c) e.li:Nat):Int)+fD d [];rw[pR,Bd,e.fL]|.a x y=>by show x.ev c d+y.ev c d=dI c d (pL (x.li true) (y.li true))-dI c d (pL (x.li false) (y.li false));rw[lV,lV,x.fL,y.fL];exact Zu1 _ _ _ _
 | .s x y=>by show x.ev c d-y.ev c d=dI c d (pL (x.li true) (y.li false))-dI c d (pL (x.li false) (y.li true));rw[lV,lV,x.fL,y.fL];exact ZqL _ _ _ _|.g x=>by show -x.ev c d=dI c d (x.li false)-dI c d (x.li true);rw[x.fL];exact Int.neg_sub _ _|.m n x=>by show Int.ofNat n*x.ev c d=dI c d (sL n (x.li true).1,sL n (x.li true).2)-dI c d (sL n (x.li false).1,sL n (x.li false).2);rw[Kg,Kg,x.fL];exact Int.mul_sub _ _ _
noncomputable def cI(x y:AI):List Nat×List Nat:=pL (x.li true) (y.li false)
noncomputable def yr(u:List Nat×List Nat):List Nat×List Nat:=(aL [1] u.1,u.2)
theorem Kh(u:List Nat×List Nat):dI c d (yr u)=dI c d u+1:=by show((dt (1::c) (aL [1] u.1):Nat):Int)+fD d u.2=((dt (1::c) u.1:Nat):Int)+fD d u.2+1;rw[Gd,Q8,Int.add_right_comm];rfl
theorem Kl(x y:AI):dI c d (cI x y)-dI c d (cI y x)=x.ev c d-y.ev c d:=by unfold cI;rw[lV,lV,x.fL,y.fL,ZqL,Int.add_comm (dI c d (y.li true))]
theorem Km{x y:AI}(h:x.ev c d<=y.ev c d):dI c d (cI x y)<=dI c d (cI y x):=by have:=Kl c d x y;omega
theorem Zyo{x y:AI}(h:dI c d (cI x y)<=dI c d (cI y x)):x.ev c d<=y.ev c d:=by have:=Kl c d x y;omega
noncomputable def Zxr:Nat->Int->Int->Prop
 |0,x,y=>x<=y|1,x,y=>x<y|2,x,y=>x=y|3,x,y=>x=y
 |4,x,y=>¬x<=y|5,x,y=>¬x<y|_,_,_=>False
noncomputable def loI:Nat->AI->AI->List Nat×List Nat
 |0,x,y=>cI x y|1,x,y=>yr (cI x y)|2,x,y=>cI x y|4,x,y=>yr (cI y x)
 |_,x,y=>cI y x
noncomputable def hiI:Nat->AI->AI->List Nat×List Nat
 |0,x,y=>cI y x|1,x,y=>cI y x|2,x,y=>cI y x|_,x,y=>cI x y
theorem Zuq{x y:AI}(h:x.ev c d<y.ev c d):dI c d (yr (cI x y))<=dI c d (cI y x):=by have:=Kl c d x y;rw[Kh];omega
theorem Zva(x y:AI):∀r,Zxr r (x.ev c d) (y.ev c d)->dI c d (loI r x y)<=dI c d (hiI r x y)
 |0,h=>Km c d h|1,h=>Zuq c d h|2,h=>Km c d (wg h)|3,h=>Km c d (wg h.symm)
 |4,h=>Zuq c d (Be.1 h)|5,h=>Km c d (Rb.1 h)|_+6,h=>h.elim
end
noncomputable def cR:Nat->Nat->AI×Nat
 |0,s=>(.k 0,s)|f+1,s=>bif uo (s % 16) 7 then(.v (s % 16),s / 16)else bif iT (s % 16) 8 then(.c (b7 9 (s / 16)).1,(b7 9 (s / 16)).2)
  else bif iT (s % 16) 9 then(.g (cR f (s / 16)).1,(cR f (s / 16)).2)else bif iT (s % 16) 10 then(.k 1,s / 16)
  else bif iT (s % 16) 11 then(.k (s / 256 % 16^(s / 16 % 16)),s / 256 / 16^(s / 16 % 16))
  else bif iT (s % 16) 12 then(.a (cR f (s / 16)).1 (cR f (cR f (s / 16)).2).1,(cR f (cR f (s / 16)).2).2)
  else bif iT (s % 16) 13 then(.m (s / 16 % 256) (cR f (s / 4096)).1,(cR f (s / 4096)).2)
  else bif iT (s % 16) 14 then(.k 0,s / 16)else(.s (cR f (s / 16)).1 (cR f (cR f (s / 16)).2).1,(cR f (cR f (s / 16)).2).2)
def hP(c:List Nat)(d:List Int)(r s:Nat):Prop:=bif uo 8 r then Zxr (r-8) ((cR 9 s).1.ev c d) ((cR 9 (cR 9 s).2).1.ev c d)else Ga r ((b7 9 s).1.ev c) ((b7 9 (b7 9 s).2).1.ev c)
noncomputable def hR(r s:Nat):Nat:=bif uo 8 r then(cR 9 (cR 9 s).2).2 else(b7 9 (b7 9 s).2).2
noncomputable def hL(r s:Nat):List Nat×List Nat:=bif uo 8 r then loI (r-8) (cR 9 s).1 (cR 9 (cR 9 s).2).1 else(RN r (b7 9 s).1 (b7 9 (b7 9 s).2).1,[])
noncomputable def hH(r s:Nat):List Nat×List Nat:=bif uo 8 r then hiI (r-8) (cR 9 s).1 (cR 9 (cR 9 s).2).1 else(Gb r (b7 9 s).1 (b7 9 (b7 9 s).2).1,[])
theorem ZxL(c:List Nat)(d:List Int)(r s:Nat)(h:hP c d r s):dI c d (hL r s)<=dI c d (hH r s):=by
 unfold hP at h;unfold hL hH;cases e:uo 8 r<;>rw[e]at h
 .exact Int.add_le_add_right (Bb.2 (Zrr c _ _ _ h)) _
 .exact Zva c d _ _ _ h
noncomputable def zL:List Nat->Bool
 |[]=>true|x::l=>iT x 0&&zL l
noncomputable def RV:List Nat->List Nat->Bool
 |[],r=>zL r|x::l,[]=>iT x 0&&zL l|x::l,y::r=>iT x y&&RV l r
theorem RX:∀c l,zL l=true->fD c l=0
 |c,[],_=>pR c|[],x::l,_=>rfl|z::c,x::l,h=>by have h:=(Y6 _ _).mp h;show z*(x:Int)+fD c l=0;rw[Aw h.1,RX c l h.2,Bd];exact J2 z
theorem ZsM:∀c l r,RV l r=true->fD c l=fD c r
 |c,[],r,h=>(pR c).trans (RX c r h).symm|c,x::l,[],h=>(RX c (x::l) h).trans (pR c).symm|[],x::l,y::r,_=>rfl|z::c,x::l,y::r,h=>by have h:=(Y6 _ _).mp h;show z*(x:Int)+fD c l=z*(y:Int)+fD c r;rw[Aw h.1,ZsM c l r h.2]
noncomputable def Bl(u w:List Nat×List Nat):Bool:=yq u.1 w.1&&RV u.2 w.2
theorem Gf(c:List Nat)(d:List Int){u w:List Nat×List Nat}(h:Bl u w=true):dI c d u<=dI c d w:=by have h:=(Y6 _ _).mp h;exact Ymj (Bb.2 (Bj _ _ _ h.1)) (wg (ZsM d _ _ h.2))
noncomputable def RZ(c:List Nat)(d:List Int):Nat->Nat->Prop
 |0,s=>hP c d (s % 16) (s / 16)|n+1,s=>hP c d (s / 16 % 16) (s / 256)->RZ c d n (hR (s / 16 % 16) (s / 256))
noncomputable def gI(r s:Nat)(L R:List Nat×List Nat):Bool:=bif iT r 0 then Bl (pL R ((b7 9 s).1.li,[])) (pL L ((b7 9 (b7 9 s).2).1.li,[]))
 else bif iT r 1 then Bl (yr (pL R ((b7 9 s).1.li,[]))) (pL L ((b7 9 (b7 9 s).2).1.li,[]))
 else bif iT r 8 then Bl (pL R (cI (cR 9 s).1 (cR 9 (cR 9 s).2).1)) (pL L (cI (cR 9 (cR 9 s).2).1 (cR 9 s).1))
 else bif iT r 9 then Bl (yr (pL R (cI (cR 9 s).1 (cR 9 (cR 9 s).2).1))) (pL L (cI (cR 9 (cR 9 s).2).1 (cR 9 s).1))
 else Bl (yr R) L
noncomputable def R4:Nat->Nat->List Nat×List Nat->List Nat×List Nat->Bool
 |0,s,L,R=>gI (s % 16) (s / 16) L R|n+1,s,L,R=>R4 n (hR (s / 16 % 16) (s / 256)) (pL L (sL (s % 16) (hL (s / 16 % 16) (s / 256)).1,sL (s % 16) (hL (s / 16 % 16) (s / 256)).2)) (pL R (sL (s % 16) (hH (s / 16 % 16) (s / 256)).1,sL (s % 16) (hH (s / 16 % 16) (s / 256)).2))
theorem Ko(c:List Nat)(d:List Int)(e:AE):dI c d (e.li,[])=((e.ev c:Nat):Int):=by show((dt (1::c) e.li:Nat):Int)+fD d []=_;rw[pR,Bd,e.fL]
theorem Zsa{a b l r:Int}(h:l<=r)(e:r+a<=l+b):a<=b:=by omega
theorem ZqV{a b l r:Int}(h:l<=r)(e:r+a+1<=l+b):a<b:=by omega
theorem Zu0{l r:Int}(h:l<=r)(e:r+1<=l):False:=by omega
theorem Zyi(c:List Nat)(d:List Int)(r s:Nat)(L R:List Nat×List Nat)(h:dI c d L<=dI c d R)(k:gI r s L R=true):hP c d r s:=by
 unfold gI at k;cases e0:iT r 0 with
 |true=>rw[Aw e0]at k ⊢;have e:=Gf c d k;rw[lV,lV,Ko,Ko]at e;exact Bb.1 (Zsa h e)|false=>
  cases e1:iT r 1 with
  |true=>rw[Aw e1]at k ⊢;have e:=Gf c d k;rw[Kh,lV,lV,Ko,Ko]at e;exact J3.1 (ZqV h e)|false=>
   cases e8:iT r 8 with
   |true=>rw[Aw e8]at k ⊢;have e:=Gf c d k;rw[lV,lV]at e;exact Zyo c d (Zsa h e)|false=>
    cases e9:iT r 9 with
    |true=>rw[Aw e9]at k ⊢;have e:=Gf c d k;rw[Kh,lV,lV]at e;have z:=ZqV h e;have y:=Kl c d (cR 9 s).1 (cR 9 (cR 9 s).2).1;show(cR 9 s).1.ev c d<(cR 9 (cR 9 s).2).1.ev c d;exact Int.lt_of_sub_neg (y▸Int.sub_neg_of_lt z)|false=>rw[e0,e1,e8,e9]at k;have e:=Gf c d k;rw[Kh]at e;exact(Zu0 h e).elim
theorem arI(c:List Nat)(d:List Int):∀(n s:Nat) (L R:List Nat×List Nat),dI c d L<=dI c d R->R4 n s L R=true->RZ c d n s
 |0,s,L,R,h,k=>Zyi c d _ _ L R h k|n+1,s,L,R,h,k=>λg=>arI c d n _ _ _ (by rw[lV,lV,Kg,Kg];exact Ymj h (Int.mul_le_mul_of_nonneg_left (ZxL c d _ _ g) (FP _))) k
end _L3
theorem iN(c:List Nat)(d:List Int)(n s:Nat)(h:_L3.R4 n s ([],[]) ([],[])=true):_L3.RZ c d n s:=_L3.arI c d n s ([],[]) ([],[]) (Int.le_refl _) h
set_option Elab.async false
set_option linter.all false
set_option maxRecDepth 100000
namespace _L2
open PySem PySem.Spec PyProof.Rows
noncomputable abbrev Key:=Sum Int aj
noncomputable def ZuH:Key->Yh->Bool
 | .inl k,v=>Value.isInt k v|.inr x,v=>Value.isStrOf x v
noncomputable def Zzy(w:bJ):Key->Int
 | .inl k=>hashInt k|.inr x=>hashStr w x
theorem ux:∀{k:Key} {v:Yh},ZuH k v=true->(∃i t,k=Sum.inl i/\v=Value.int i t)\/(∃x t,k=Sum.inr x/\v=Value.str x t)
 | .inl i,v,h=>by obtain⟨t,e⟩:=Value.isInt_shape (k:=i) (v:=v) h;exact .inl ⟨i,t,rfl,e⟩|.inr x,v,h=>by obtain⟨t,e⟩:=Value.isStrOf_shape (x:=x) (v:=v) h;exact .inr ⟨x,t,rfl,e⟩
theorem ZwA(a b:Int):decide ((Sum.inl a:Key)=Sum.inl b)=(a==b):=by
 by_cases e:a=b
 .subst e;simp
 .have h:¬(Sum.inl a:Key)=Sum.inl b:=λq=>e (Sum.inl.inj q);rw[decide_eq_false h];exact(beq_eq_false_iff_ne.mpr e).symm
theorem ZwF(a b:aj):decide ((Sum.inr a:Key)=Sum.inr b)=decide (a=b):=by
 by_cases e:a=b
 .subst e;simp
 .have h:¬(Sum.inr a:Key)=Sum.inr b:=λq=>e (Sum.inr.inj q);rw[decide_eq_false h,decide_eq_false e]
theorem Zvs(a:Int)(b:aj):decide ((Sum.inl a:Key)=Sum.inr b)=false:=decide_eq_false (λq=>nomatch q)
theorem Zvx(a:aj)(b:Int):decide ((Sum.inr a:Key)=Sum.inl b)=false:=decide_eq_false (λq=>nomatch q)
noncomputable def Zpa(prog:bR)(w:bJ):PySem.KeyKind prog w Key where
 is:=ZuH
 hash:=Zzy w
 inj:=λv a b ha hb=>by
  rcases ux ha with⟨i,t,rfl,rfl⟩|⟨x,t,rfl,rfl⟩
  .rcases ux hb with⟨j,u,rfl,e⟩|⟨y,u,rfl,e⟩
   .injection e with e1 _;rw[e1]
   .exact nomatch e
  .rcases ux hb with⟨j,u,rfl,e⟩|⟨y,u,rfl,e⟩
   .exact nomatch e
   .injection e with e1 _;rw[e1]
 byValue:=λk v h=>by rcases ux h with⟨i,t,rfl,rfl⟩|⟨x,t,rfl,rfl⟩<;>rfl
 pyHash:=λhv h=>by
  rcases ux hv with⟨i,t,rfl,rfl⟩|⟨x,t,rfl,rfl⟩
  .exact Ylg h
  .exact Ylh h
 eqBool:=λhu hv h=>by
  rcases ux hu with⟨i,t,rfl,rfl⟩|⟨x,t,rfl,rfl⟩
  .rcases ux hv with⟨j,u,rfl,rfl⟩|⟨y,u,rfl,rfl⟩
   .rw[ZwA]at h;exact wpAny_eqBool_int h
   .rw[Zvs]at h;exact Rz i t y u _ _ _ _ h
  .rcases ux hv with⟨j,u,rfl,rfl⟩|⟨y,u,rfl,rfl⟩
   .rw[Zvx]at h;exact Kd x t j u _ _ _ _ h
   .rw[ZwF]at h;exact wpAny_eqBool_str h
 «strs»:=λk x t v h=>by
  rcases ux h with⟨i,u,rfl,e⟩|⟨y,u,rfl,e⟩
  .exact nomatch e
  .injection e with e1 _
   subst e1;cases v<;>rfl
end _L2
namespace _L2
open PySem PySem.Spec PyProof.Rows
inductive V where
 |non|bl (b:Bool)|int (i:Int)|str (x:aj)|Bm (b:Array UInt8)|flt (b:UInt64)|ref (a:Y4)|ty (n:String)
 deriving DecidableEq
noncomputable def RelV:V->Yh->Prop
 | .non,u=>u=Value.none|.bl b,u=>u=Value.bool b|.int i,u=>∃t,u=Value.int i t|.str x,u=>∃t,u=Value.str x t
 | .Bm b,u=>∃t,u=Value.bytes b t|.flt b,u=>∃t,u=Value.float b t|.ref a,u=>u=Value.ref a|.ty n,u=>u=Value.type n
noncomputable abbrev Vals:List V->List Yh->Prop:=Paired RelV
theorem Vals.length{xs:List V}{us:List Yh}(r:Vals xs us):xs.length=us.length:=Ymu r
theorem Vals.get:∀{xs:List V} {us:List Yh} {i:Nat} {x:V},Vals xs us->xs[i]?=Ya x->∃u,us[i]?=Ya u/\RelV x u
 |_,_,_,_,.nil,e=>by simp at e|_,_,0,_,.cons r _,e=>by simp at e;subst e;exact⟨_,rfl,r⟩|_,_,i+1,x,.cons _ t,e=>by obtain⟨u,h1,h2⟩:=Vals.get (i:=i) (x:=x) t (by simpa using e);exact⟨u,by simpa using h1,h2⟩
theorem Vals.set{x:V}{u:Yh}(r:RelV x u):∀{xs:List V} {us:List Yh} (i:Nat),Vals xs us->Vals (xs.set i x) (us.set i u)
 |_,_,_,.nil=>.nil|_,_,0,.cons _ t=>.cons r t|_,_,i+1,.cons q t=>.cons q (Vals.set r i t)
theorem Vals.append:∀{xs ys:List V} {us ws:List Yh},Vals xs us->Vals ys ws->Vals (xs++ys) (us++ws)
 |_,_,_,_,.nil,s=>s|_,_,_,_,.cons r t,s=>.cons r (Vals.append t s)
theorem Vals.take:∀{xs:List V} {us:List Yh} (n:Nat),Vals xs us->Vals (xs.take n) (us.take n)
 |_,_,0,_=>.nil|_,_,_+1,.nil=>.nil|_,_,n+1,.cons r t=>.cons r (Vals.take n t)
theorem Vals.drop:∀{xs:List V} {us:List Yh} (n:Nat),Vals xs us->Vals (xs.drop n) (us.drop n)
 |_,_,0,r=>r|_,_,_+1,.nil=>.nil|_,_,n+1,.cons _ t=>Vals.drop n t
noncomputable def oZ:Option V->Option Yh->Prop
 |some v,Ya u=>RelV v u|none,Ym=>True|_,_=>False
noncomputable def KV{κ:Type}:List (κ×V)->List (κ×Yh)->Prop:=Paired λ(p:κ×V) (q:κ×Yh)=>p.1=q.1/\RelV p.2 q.2
noncomputable def kV:Key->V
 | .inl i=>.int i|.inr x=>.str x
inductive HO where
 /--a list -/
 |lst (xs:List V)
 /--a tuple (never changes) -/
 |tup (xs:List V)
 /--a dict whose keys are ints and texts;one whose keys are tuples of ints and texts (the empty one is both) -/
 |dK (kvs:List (Key×V))|dT (kvs:List (List Key×V))
 /--a set of ints:its members,its size -/
 |set (S:Int->Bool) (n:Nat)
 /--an instance of the class at C,its dict at dx,its attributes -/
 |ins (C dx:Y4) (fs:List (aj×V))
 /--the dict of the instance at x -/
 |own (x:Y4)
 /--the dict of an exception -/
 |xd (fs:List (aj×V))
 /--a bound method,f of x -/
 |met (f x:Y4)
 /--a range object lo,lo+1,.. below hi -/
 |R5 (lo hi:Int)
 /--a thing that is known to the object (the script;a dict while a loop walks it):read,never written while it is so -/
 |gA (o:aP) (u:HO)
 /--a code object's table -/
 |yt (ps:Array Yh)
 /--any other thing,by what is true of its one object (a def of one's own:AeV a S n:=HO.ext λh=>..) -/
 |ext (φ:aR->Prop)
noncomputable abbrev Hp:=Y4->Option HO
noncomputable def upd(H:Hp)(a:Y4)(o:HO):Hp:=λb=>if b=a then Ya o else H b
variable{H:Hp}
theorem qN{a:Y4}{o:HO}:upd H a o a=Ya o:=by unfold upd;rw[if_pos rfl]
theorem gB{a b:Y4}{o:HO}(h:b≠a):upd H a o b=H b:=by unfold upd;rw[if_neg h]
theorem Gg{a b:Y4}{o:HO}(h:H a=Ya o)(h':H b=Ym):a≠b:=by intro e;subst e;rw[h]at h';cases h'
section
variable (P:bR) (w:bJ)
def sG(h:aR)(a:Y4)(items:Array Yh):Prop:=∃o,h.get? a=Ya o/\(o.cls= .type "tuple" /\o.dict=Ym)/\∃n,o.data= .seq items n
theorem sG.tup{h:aR}{a:Y4}{items:Array Yh}(x:sG h a items):IsTup h a items:=let⟨o,e,c,d⟩:=x;⟨o,e,c.1,d⟩
theorem sG.new(h:aR)(items:Array Yh):sG (h.push {cls:=.type "tuple",data:=.seq items}) h.objs.size items:=⟨_,Y5 _ rfl,⟨rfl,rfl⟩,0,rfl⟩
noncomputable def gZ(H:Hp)(h:aR)(a:Y4):HO->Prop
 | .lst xs=>xs.length<=bG/\∃(its:List Yh) (n:Nat),Vals xs its/\h.get? a=Ya {cls:=.type "list",data:=.seq its.toArray n}|.tup xs=>xs.length<=bG/\∃its:List Yh,Vals xs its/\sG h a its.toArray|.dK kvs=>kvs.length<=bG/\(a==sysModules)=false/\∃vs,KV kvs vs/\h.DictOf (Zpa P w) a vs|.dT kvs=>kvs.length<=bG/\(a==sysModules)=false/\∃xs:List (List Key×Y4×Yh),
   Paired (λ(p:List Key×V) (q:List Key×Y4×Yh)=>p.1=q.1/\H q.2.1=Ya (.tup (p.1.map kV))/\RelV p.2 q.2.2) kvs xs/\
   ∃o es ep,h.get? a=Ya o/\o.ExactDict/\o.data= .dict es ep/\es.toList=xs.map (entryOfKey (tupleKind (Zpa P w)))/\(xs.map (·.1)).Nodup
 | .set S n=>h.SetOf (intKind P w) a S n|.ins C dx fs=>H dx=Ya (.own a)/\fs.length<=1000/\dx≠a/\h.get? a=Ya (vH C dx)/\
   ∃mA,h.Ns1 dx mA/\(∀f,oZ (fs.lookup f) (mA f))/\QF mA (fs.map (·.1))
 | .own _=>∃o,h.get? a=Ya o|.xd fs=>∃mA,h.Ns1 a mA/\∀f,oZ (fs.lookup f) (mA f)|.R5 lo hi=>∃t u v,h.get? a=Ya {cls:=.type "range",data:=.fields #[.int lo t,.int hi u,.int 1 v]}|.gA o u=>h.get? a=Ya o/\gZ H h a u
 | .yt ps=>h.get? a=Ya {cls:=.none,data:=.fields ps}|.met f x=>h.get? a=Ya (P_ (.ref f) (.ref x))|.ext φ=>φ h/\(∃o,h.get? a=Ya o)/\∀h1 h2:aR,φ h1->(∀o,h1.get? a=Ya o->h2.get? a=Ya o)->φ h2
def iy(H:Hp)(h:aR):Prop:=∀a o,H a=Ya o->gZ P w H h a o
end
section
variable {P:bR} {w:bJ} {H H':Hp} {h h':aR} {a:Y4} {o:HO}
theorem gZ.lt(x:gZ P w H h a o):a<h.objs.size:=by
 cases o with
 |lst xs=>obtain⟨_,_,_,_,e⟩:=x;exact Y7 e|tup xs=>obtain⟨_,_,_,p⟩:=x;exact p.tup.lt|dK kvs=>obtain⟨_,_,_,_,o,_,_,e,_⟩:=x;exact Y7 e|dT kvs=>obtain⟨_,_,_,_,o,_,_,e,_⟩:=x;exact Y7 e
 |set S n=>obtain⟨o,_,_,_,e,_⟩:=x;exact Y7 e|ins C dx fs=>obtain⟨_,_,_,e,_⟩:=x;exact Y7 e|own y=>obtain⟨_,e⟩:=x;exact Y7 e|xd fs=>obtain⟨_,⟨_,_,_,e,_⟩,_⟩:=x;exact Y7 e
 |R5 lo hi=>obtain⟨_,_,_,e⟩:=x;exact Y7 e|gA ob u=>obtain⟨e,_⟩:=x;exact Y7 e|yt ps=>exact Y7 (show h.get? a=Ya _ from x)|met f y=>exact Y7 (show h.get? a=Ya _ from x)
 |ext φ=>obtain⟨_,⟨_,e⟩,_⟩:=x;exact Y7 e
theorem Paired.Pn{α β:Type}{F G:α->β->Prop}:∀{l₁:List α} {l₂:List β},Paired F l₁ l₂->(∀a b,F a b->G a b)->Paired G l₁ l₂
 |_,_,.nil,_=>.nil|_,_,.cons r t,f=>.cons (f _ _ r) (Paired.Pn t f)
theorem gZ.stay(x:gZ P w H h a o)(k:∀b u,(b=a\/H b=Ya (.own a))->h.get? b=Ya u->h'.get? b=Ya u)(ho:∀b,H b=Ya (.own a)->H' b=Ya (.own a))(ht:∀b xs,H b=Ya (.tup xs)->H' b=Ya (.tup xs)):gZ P w H' h' a o:=by
 induction o with
 |lst xs=>obtain⟨z,its,n,r,e⟩:=x;exact⟨z,its,n,r,k _ _ (.inl rfl) e⟩|tup xs=>obtain⟨z,its,r,ob,e,c⟩:=x;exact⟨z,its,r,ob,k _ _ (.inl rfl) e,c⟩|dK kvs=>obtain⟨z,y,vs,r,ob,es,ep,e,c⟩:=x;exact⟨z,y,vs,r,ob,es,ep,k _ _ (.inl rfl) e,c⟩|dT kvs=>obtain⟨z,y,xs,r,ob,es,ep,e,c⟩:=x;exact⟨z,y,xs,Paired.Pn r λp q z=>⟨z.1,ht _ _ z.2.1,z.2.2⟩,ob,es,ep,k _ _ (.inl rfl) e,c⟩
 |set S n=>obtain⟨ob,es,ep,t,e,c⟩:=x;exact⟨ob,es,ep,t,k _ _ (.inl rfl) e,c⟩|ins C dx fs=>obtain⟨d,z,ne,e,mA,⟨od,es,ep,e2,c⟩,r⟩:=x;exact⟨ho _ d,z,ne,k _ _ (.inl rfl) e,mA,⟨od,es,ep,k _ _ (.inr d) e2,c⟩,r⟩
 |own y=>obtain⟨ob,e⟩:=x;exact⟨ob,k _ _ (.inl rfl) e⟩|xd fs=>obtain⟨mA,⟨od,es,ep,e,c⟩,r⟩:=x;exact⟨mA,⟨od,es,ep,k _ _ (.inl rfl) e,c⟩,r⟩|R5 lo hi=>obtain⟨t,u,v,e⟩:=x;exact⟨t,u,v,k _ _ (.inl rfl) e⟩|gA ob u ih=>obtain⟨e,q⟩:=x;exact⟨k _ _ (.inl rfl) e,ih q⟩
 |yt ps=>have e:h.get? a=Ya {cls:=.none,data:=.fields ps}:=x;show h'.get? a=Ya {cls:=.none,data:=.fields ps};exact k a _ (.inl rfl) e|met f y=>have e:h.get? a=Ya (P_ (.ref f) (.ref y)):=x;show h'.get? a=Ya (P_ (.ref f) (.ref y));exact k a _ (.inl rfl) e|ext φ=>obtain⟨p,⟨o,e⟩,st⟩:=x;exact⟨st _ _ p λo q=>k _ _ (.inl rfl) q,⟨o,k _ _ (.inl rfl) e⟩,st⟩
theorem iy.lt(x:iy P w H h)(e:H a=Ya o):a<h.objs.size:=(x a o e).lt
theorem iy.fresh(x:iy P w H h)(e:h.objs.size<=a):H a=Ym:=by
 cases q:H a with
 |none=>rfl|some u=>exact absurd (Y8 (x.lt q) e) (v6 _)
theorem iy.kept(x:iy P w H h)(k:∀b u,h.get? b=Ya u->h'.get? b=Ya u):iy P w H h':=λa o e=>(x a o e).stay (λb u _ q=>k b u q) (λ_ q=>q) λ_ _ q=>q
theorem iy.laid(x:iy P w H h)(k:∀b u,h.get? b=Ya u->h'.get? b=Ya u)(hp:h.objs.size<=a)(new:gZ P w (upd H a o) h' a o):iy P w (upd H a o) h':=λb u e=>by
 have hn:=x.fresh hp;by_cases hb:b=a
 .subst hb;rw[qN]at e;cases e;exact new
 .rw[gB hb]at e;exact(x b u e).stay (λc v _ q=>k c v q) (λc q=>by rw[gB (Gg q hn)];exact q) λc xs q=>by rw[gB (Gg q hn)];exact q
end
def Rd(H:Hp)(a:Y4)(u:HO):Prop:=H a=Ya u\/∃o,H a=Ya (.gA o u)
theorem Rd.ok{P:bR}{w:bJ}{h:aR}{a:Y4}{u:HO}(r:Rd H a u)(x:iy P w H h):gZ P w H h a u:=by
 rcases r with r|⟨o,r⟩
 .exact x a u r
 .obtain⟨_,q⟩:=x a _ r;exact q
noncomputable def Kq:Option HO->Prop
 |some (.lst _)=>True|some (.dK _)=>True|some (.dT _)=>True|some (.set _ _)=>True
 |some (.ins _ _ _)=>True|some (.ext _)=>True|_=>False
section
variable {P:bR} {w:bJ} {H:Hp} {h h':aR} {x e:Y4} {o':HO}
theorem iy.write(ok:iy P w H h)(mu:Kq (H x))(he:e=x\/H e=Ya (.own x))(k:∀b u,b≠e->h.get? b=Ya u->h'.get? b=Ya u)(heo:∃u,h'.get? e=Ya u)(new:gZ P w (upd H x o') h' x o'):iy P w (upd H x o') h':=λb u q=>by
 have XS:∀c y,H c=Ya (.own y)->c≠x:=λc y r z=>by subst z;rw[r]at mu;exact mu
 have Aby:∀c xs,H c=Ya (.tup xs)->c≠x:=λc xs r z=>by subst z;rw[r]at mu;exact mu
 by_cases hb:b=x
 .subst hb;rw[qN]at q;cases q;exact new
 .rw[gB hb]at q;by_cases hbe:b=e
  .have q':H b=Ya (.own x):=by
    rcases he with z|z
    .exact absurd (hbe.trans z) hb
    .rw[hbe];exact z
   rw[q]at q';cases q';obtain⟨v,hv⟩:=heo;exact⟨v,by rw[hbe];exact hv⟩
  .refine(ok b u q).stay (λc v hc r=>k c v ?_ r) (λc r=>by rw[gB (XS c b r)];exact r) λc xs r=>by rw[gB (Aby c xs r)];exact r
   rcases hc with rfl|hc
   .exact hbe
   .rintro rfl;rcases he with z|z
    .exact XS c b hc z
    .rw[hc]at z;cases z;exact hb rfl
end
structure Un(fs ex:List Y4)(H H':Hp)(h h':aR):Prop where
 keep:∀b o,h.get? b=Ya o->H b=Ym->b∉fs->b∉ex->h'.get? b=Ya o
 slot:∀b o,h.get? b=Ya o->H b=Ym->b∈fs->b∉ex->∃sl,h'.get? b=Ya {o with slots:=sl}
 free:∀b o,h.get? b=Ya o->H b=Ym->b∉ex->H' b=Ym
 there:∀b o,h.get? b=Ya o->b∉ex->∃o',h'.get? b=Ya o'
 tups:∀b xs,H b=Ya (.tup xs)->H' b=Ya (.tup xs)
 oV:∀b o u,H b=Ya (.gA o u)->H' b=Ya (.gA o u)
 pI:∀b ps,H b=Ya (.yt ps)->∃more,H' b=Ya (.yt (ps++more))
section
variable {fs fs' ex ex':List Y4} {H H1 H2:Hp} {h h1 h2 h':aR} {a x e:Y4} {o:HO}
theorem Un.any(u:Un fs ex H H1 h h1){b:Y4}{ob:aP}(q:h.get? b=Ya ob)(n:H b=Ym)(hx:b∉ex):∃sl,h1.get? b=Ya {ob with slots:=sl}:=by
 by_cases hb:b∈fs
 .exact u.slot b ob q n hb hx
 .exact⟨ob.slots,u.keep b ob q n hb hx⟩
theorem Un.trans(a:Un fs ex H H1 h h1)(b:Un fs ex H1 H2 h1 h2):Un fs ex H H2 h h2 where
 keep:=λc ob q n hc hx=>b.keep c ob (a.keep c ob q n hc hx) (a.free c ob q n hx) hc hx
 slot:=λc ob q n hc hx=>by obtain⟨sl,e1⟩:=a.slot c ob q n hc hx;obtain⟨sl',e2⟩:=b.slot c _ e1 (a.free c ob q n hx) hc hx;exact⟨sl',e2⟩
 free:=λc ob q n hx=>by obtain⟨o',e1⟩:=a.there c ob q hx;exact b.free c o' e1 (a.free c ob q n hx) hx
 there:=λc ob q hx=>by obtain⟨o',e1⟩:=a.there c ob q hx;exact b.there c o' e1 hx
 tups:=λc xs q=>b.tups c xs (a.tups c xs q)
 oV:=λc ob xs q=>b.oV c ob xs (a.oV c ob xs q)
 pI:=λc ps q=>by obtain⟨m1,e1⟩:=a.pI c ps q;obtain⟨m2,e2⟩:=b.pI c _ e1;exact⟨m1++m2,by rw[e2,Yj5]⟩
theorem Un.kept(k:∀b u,h.get? b=Ya u->h'.get? b=Ya u):Un fs ex H H h h':=⟨λb ob q _ _ _=>k b ob q,λb ob q _ _ _=>⟨ob.slots,k b ob q⟩,λ_ _ _ n _=>n,λb ob q _=>⟨ob,k b ob q⟩,λ_ _ q=>q,λ_ _ _ q=>q,λ_ ps q=>⟨#[],by rw[q];simp⟩⟩
theorem Un.refl:Un fs ex H H h h:=Un.kept λ_ _ q=>q
theorem Un.laid(k:∀b u,h.get? b=Ya u->h'.get? b=Ya u)(hp:h.objs.size<=a)(hn:H a=Ym):Un fs ex H (upd H a o) h h' where
 keep:=λb u q _ _ _=>k b u q
 slot:=λb u q _ _ _=>⟨u.slots,k b u q⟩
 free:=λb u q n _=>by rw[gB (d8 (Y8 (Y7 q) hp))];exact n
 there:=λb u q _=>⟨u,k b u q⟩
 tups:=λb xs q=>by rw[gB (Gg q hn)];exact q
 oV:=λb u xs q=>by rw[gB (Gg q hn)];exact q
 pI:=λb ps q=>⟨#[],by rw[gB (Gg q hn),q];simp⟩
theorem Un.write(mu:Kq (H x))(he:e=x\/H e=Ya (.own x))(k:∀b u,b≠e->h.get? b=Ya u->h'.get? b=Ya u)(heo:∃u,h'.get? e=Ya u):Un fs ex H (upd H x o) h h':=by
 have hx:∀b,H b=Ym->b≠x:=λb n z=>by subst z;rw[n]at mu;exact mu
 have hb:∀b,H b=Ym->b≠e:=λb n z=>by
  subst z;rcases he with r|r
  .exact hx b n r
  .rw[n]at r;cases r
 have hm:∀b u,H b=Ya u->¬Kq (Ya u)->b≠x:=λb u q nm z=>by subst z;rw[q]at mu;exact nm mu
 refine⟨λb u q n _ _=>k b u (hb b n) q,λb u q n _ _=>⟨u.slots,k b u (hb b n) q⟩,λb u q n _=>by rw[gB (hx b n)];exact n,λb u q _=>?_,
  λb xs q=>by rw[gB (hm b _ q λz=>z)];exact q,λb u xs q=>by rw[gB (hm b _ q λz=>z)];exact q,λb ps q=>⟨#[],by rw[gB (hm b _ q λz=>z),q];simp⟩⟩
 by_cases hbe:b=e
 .subst hbe;exact heo
 .exact⟨u,k b u hbe q⟩
theorem Un.mono(u:Un fs ex H H1 h h1)(hs:∀b∈fs,b∈fs')(hx:∀b∈ex,b∈ex'):Un fs' ex' H H1 h h1:=⟨λb ob q n hb he=>u.keep b ob q n (λz=>hb (hs b z)) λz=>he (hx b z),λ_ _ q n _ he=>u.any q n λz=>he (hx _ z),λb ob q n he=>u.free b ob q n λz=>he (hx b z),λb ob q he=>u.there b ob q λz=>he (hx b z),u.tups,u.oV,u.pI⟩
end
noncomputable def Kr(h:aR)(H:Hp):List Y4:=(iC h.objs.size).filter λa=>(H a).isSome
noncomputable def uy(h:aR)(H:Hp):aR:=PySem.W.hideAll h (Kr h H)
theorem ZpM(h:aR)(H:Hp):(uy h H).objs.size=h.objs.size:=PySem.W.hideAll_size _ _
theorem ZrB{h:aR}{b:Y4}{o:aP}(e:h.get? b=Ya o)(n:H b=Ym):(uy h H).get? b=Ya o:=PySem.W.hideAll_get _ e λhm=>by have q:(H b).isSome=true:=(Yl0.mp hm).2;rw[n]at q;simp at q
theorem Zup{h:aR}{b:Y4}{o:aP}(e:(uy h H).get? b=Ya o):h.get? b=Ya o/\H b=Ym:=by
 have e':h.get? b=Ya o:=PySem.W.of_hideAll (Kr h H) e;refine⟨e',?_⟩;cases q:H b with
 |none=>rfl|some x=>have hm:b∈Kr h H:=Yl0.mpr ⟨Jr.mpr (Y7 e'),by simp[q]⟩;have z:(uy h H).get? b=Ym:=PySem.W.hideAll_none (Kr h H) hm;rw[z]at e;cases e
noncomputable def ZtU(g h:aR)(L:Y4):List (Y4×aP):=(iC h.objs.size).filterMap λa=>if a=L\/(g.get? a).isSome=true then Ym else(h.get? a).map λo=>(a,o)
noncomputable def rest(g h:aR)(L d:Y4):List (Y4×aP):=(ZtU g h L).filter λp=>decide (p.1≠d)
end _L2
namespace _L2
open PySem PySem.Spec PyProof.Rows
structure Mod(K:Yb)(mg:aj->Option Yh)(base:aR):Prop where
 Gh:K.In base
 glob:base.Ns Yx mg
 blt:∃mb,base.Ns QL mb/\∀x:aj,x≠ "__name__" ->mb x=kY x
 nolimit:base.NoLimit
/--the context:a def's body (or a comprehension's block) running. base:fixed through the whole law;s₀,H₀:the entry;outer:the frames whose slots others may change(a def's callers);stack:all frames that run;
  ex:iterators that were made ahead of the entry and are walked here (a comprehension's);fn:the names whose cells were made at the entry (a def:all;a comprehension's block:its own);calm:not within an except suite;pn:pins that every state bears;xe:what is wanted of an exception that leaves the code -/
structure Cx where
 prog:bR
 w:bJ
 K:Yb
 mg:aj->Option Yh
 base:aR
 A:bW
 N:List aj
 s₀:Yl
 H₀:Hp
 env:gj
 outer:List gj
 stack:List gj
 ex:List Y4
 fn:aj->Bool
 calm:Bool
 pn:List (Y4×aP)
 xe:Yh->Yl->Prop
noncomputable def frs(l:List gj):List Y4:=l.filterMap (·.frame)
noncomputable abbrev Cx.fs(X:Cx):List Y4:=frs X.outer
def Ks(sc:Scope)(x:aj):Prop:=sc.names.lookup x=Ya .local\/sc.names.lookup x=Ya .cell\/sc.names.lookup x=Ya .free
def Loc(sc:Scope)(x:aj):Prop:=sc.names.lookup x=Ya .local\/sc.names.lookup x=Ya .cell
def Look(env:gj)(h:aR)(m:aj->Option Yh)(x:aj)(u:Yh):Prop:=(env.kindOf x=Ya .local/\m x=Ya u)\/((env.kindOf x=Ya .cell\/env.kindOf x=Ya .free)/\∃c,env.cells.lookup x=Ya c/\h.IsCell c (Ya u))
structure Cx.Ok(X:Cx):Prop where
 mod:Mod X.K X.mg X.base
 kind:X.env.scope.kind= .function
 glob:X.env.globals=Yx
 blt:X.env.builtins=QL
 above:X.s₀.heap.objs.size<=X.env.locals
 inj:∀x y c,X.env.cells.lookup x=Ya c->X.env.cells.lookup y=Ya c->x=y
 has:∀x,(X.env.kindOf x=Ya .cell\/X.env.kindOf x=Ya .free)->∃c,X.env.cells.lookup x=Ya c
 cab:∀x c,X.fn x=true->X.env.cells.lookup x=Ya c->X.s₀.heap.objs.size<=c
 hd:X.calm=true->X.A.handled=Ym
 frames:X.A.frames=Ya X.stack
 iG:X.stack=X.outer\/(X.stack=X.env::X.outer/\X.env.frame=Ya X.env.locals)
 Ku:∀b∈X.ex,b≠X.env.locals/\∀x c,X.env.cells.lookup x=Ya c->c≠b
 bs:∀b o,X.base.get? b=Ya o->X.s₀.heap.get? b=Ya o/\X.H₀ b=Ym
 qO:X.base.objs.size<=X.s₀.heap.objs.size
 Eu:∀b o,X.base.get? b=Ya o->b∉X.ex
 zY:∀b∈X.ex,b∉X.fs
 oW:X.s₀.heap.FunFrames X.base X.outer
 wk:∀b∈X.fs,X.H₀ b=Ym
structure Inv(X:Cx)(pins:List (Y4×aP))(σ:List (Option V))(H:Hp)(s:Yl):Prop where
 ok:X.Ok
 os:s.os=X.s₀.os
 bare:ut s.gens
 base:Un X.fs X.ex X.H₀ H X.s₀.heap s.heap
 loc:∃m,s.heap.Ns X.env.locals m/\∀(i:Nat) (x:aj) (v:V),X.N[i]?=Ya x->σ[i]?=Ya (Ya v)->Ks X.env.scope x->∃u,RelV v u/\Look X.env s.heap m x u
 cell:∀x c,X.env.cells.lookup x=Ya c->∃v,s.heap.IsCell c v
 free:H X.env.locals=Ym
 rQ:∀x c,X.env.cells.lookup x=Ya c->H c=Ym
 pin:∀p∈X.pn++pins,s.heap.get? p.1=Ya p.2/\H p.1=Ym/\p.1≠X.env.locals/\p.1∉X.fs/\∀v,p.2.data≠ .cell v
 hok:iy X.prog X.w H s.heap
 len:σ.length=X.N.length
variable{ch:List Y4}{E:Yh->Yl->Prop}{t':Nat}
section
variable {X:Cx} {pins:List (Y4×aP)} {σ:List (Option V)} {H H':Hp} {s:Yl} {h':aR}
theorem Cx.Ok.Abz(ok:X.Ok){b:Y4}{o:aP}(e:X.base.get? b=Ya o):b∉X.fs:=λhb=>by have:=(ok.oW.mem hb).1;rw[e]at this;cases this
theorem Inv.bs(I:Inv X pins σ H s):∀b o,X.base.get? b=Ya o->s.heap.get? b=Ya o/\H b=Ym:=λb o e=>⟨I.base.keep b o (I.ok.bs b o e).1 (I.ok.bs b o e).2 (I.ok.Abz e) (I.ok.Eu b o e),I.base.free b o (I.ok.bs b o e).1 (I.ok.bs b o e).2 (I.ok.Eu b o e)⟩
theorem Inv.bk(I:Inv X pins σ H s):∀b o,X.base.get? b=Ya o->s.heap.get? b=Ya o:=λb o e=>(I.bs b o e).1
theorem Inv.mod(I:Inv X pins σ H s):Mod X.K X.mg X.base:=I.ok.mod
theorem Inv.fG(I:Inv X pins σ H s):X.K.In s.heap:=I.ok.mod.Gh.keeps I.bk
theorem Inv.nolimit(I:Inv X pins σ H s):s.heap.NoLimit:=I.ok.mod.nolimit.keeps I.bk
theorem Inv.fr(I:Inv X pins σ H s):∃m,Fr X.base X.env.locals s.heap m:=
 let⟨m,hn,_⟩:=I.loc
 ⟨m,hn,I.bk,Yi I.ok.qO I.ok.above⟩
theorem Inv.lt(I:Inv X pins σ H s):X.env.locals<s.heap.objs.size:=let⟨_,hn,_⟩:=I.loc;hn.lt
theorem Inv.sz(I:Inv X pins σ H s):X.s₀.heap.objs.size<=s.heap.objs.size:=Yi I.ok.above (Az I.lt)
theorem Inv.AbA(I:Inv X pins σ H s){a:Y4}(h:s.heap.objs.size<=a):a∉X.fs:=λhb=>by obtain⟨_,o,ho,_⟩:=I.ok.oW.mem hb;exact absurd (Y8 (Y7 ho) (Yi I.sz h)) (v6 _)
theorem Inv.yu(I:Inv X pins σ H s):∀x c,X.env.cells.lookup x=Ya c->c≠X.env.locals:=λx c e z=>by obtain⟨v,o,ho,hd⟩:=I.cell x c e;obtain⟨m,⟨o',es,ep,ho',hd',_⟩,_⟩:=I.loc;rw[z,ho']at ho;cases ho;rw[hd']at hd;cases hd
theorem Inv.oW(I:Inv X pins σ H s):s.heap.FunFrames X.base X.outer:=by
 have all:∀(l:List gj),(∀b∈frs l,b∈X.fs)->X.s₀.heap.FunFrames X.base l->s.heap.FunFrames X.base l:=by
  intro l
  induction l with
  |nil=>intro _ _;trivial|cons env r ih=>intro hs hl;obtain⟨hk,⟨L,o,hf,hn,ho,hd⟩,hr⟩:=hl;have hL:L∈X.fs:=hs L (by unfold frs;rw[Qh,hf];exact Yc);obtain⟨sl,e⟩:=I.base.slot L o ho (I.ok.wk L hL) hL λz=>I.ok.zY L z hL;exact⟨hk,⟨L,_,hf,hn,e,hd⟩,ih (λb hb=>hs b (by unfold frs;rw[Qh,hf];exact Yd _ hb)) hr⟩
 exact all X.outer (λ_ hb=>hb) I.ok.oW
theorem Inv.stack(I:Inv X pins σ H s):s.heap.FunFrames X.base X.stack:=by
 rcases I.ok.iG with e|⟨e,hf⟩
 .rw[e];exact I.oW
 .rw[e];obtain⟨m,hn,_⟩:=I.loc;refine .cons (by rw[I.ok.kind];decide) hf hn ?_ I.oW;exact Heap.get?_none_of_le (Yi I.ok.qO I.ok.above)
theorem Inv.Pa(I:Inv X pins σ H s):∀b∈frs X.stack,b∈X.env.locals::X.fs:=λb hb=>by
 rcases I.ok.iG with e|⟨e,hf⟩
 .rw[e]at hb;exact Yd _ hb
 .rw[e]at hb;unfold frs at hb;rw[Qh,hf]at hb;exact hb
theorem Inv.Xr(I:Inv X pins σ H s):∀b∈frs X.stack,H b=Ym:=λb hb=>by
 rcases Yo.mp (I.Pa b hb)with e|hb
 .rw[e];exact I.free
 .obtain⟨_,o,ho,_⟩:=I.ok.oW.mem hb;exact I.base.free b o ho (I.ok.wk b hb) λz=>I.ok.zY b z hb
theorem Inv.step{g':Array GenState}{d':Drawn}(I:Inv X pins σ H s)(hch:∀b∈ch,(b∈X.ex\/X.s₀.heap.objs.size<=b)/\b≠X.env.locals/\(∀x c,X.env.cells.lookup x=Ya c->c≠b)/\∀p∈X.pn++pins,p.1≠b)(keep:∀b o,b≠X.env.locals->b∉X.fs->b∉ch->s.heap.get? b=Ya o->H b=Ym->h'.get? b=Ya o)(slot:∀b o,b≠X.env.locals->b∈X.fs->b∉ch->s.heap.get? b=Ya o->H b=Ym->∃sl,h'.get? b=Ya {o with slots:=sl})(free:∀b o,b∉ch->s.heap.get? b=Ya o->H b=Ym->H' b=Ym)(there:∀b o,b∉ch->s.heap.get? b=Ya o->∃o',h'.get? b=Ya o')(tups:∀b xs,H b=Ya (.tup xs)->H' b=Ya (.tup xs))(oV:∀b o u,H b=Ya (.gA o u)->H' b=Ya (.gA o u))(pI:∀b ps,H b=Ya (.yt ps)->∃more,H' b=Ya (.yt (ps++more)))(ns:∀m,s.heap.Ns X.env.locals m->h'.Ns X.env.locals m)(hok:iy X.prog X.w H' h')(hg:ut g'):
  Inv X pins σ H' {s with heap:=h',gens:=g',drawn:=d',toks:=t'}:=by
 have neL:∀b o,X.s₀.heap.get? b=Ya o->b≠X.env.locals:=λb o e=>d8 (Y8 (Y7 e) I.ok.above);have Kv:∀b o,X.s₀.heap.get? b=Ya o->b∉X.ex->b∉ch:=λb o e hx hb=>by
  rcases(hch b hb).1 with z|z
  .exact hx z
  .exact absurd (Y8 (Y7 e) z) (v6 _)
 have cellK:∀x c,X.env.cells.lookup x=Ya c->∀v,s.heap.IsCell c v->h'.IsCell c v:=λx c e v ak=>by
  obtain⟨o,ho,hd⟩:=ak;have Gi:c∉ch:=λz=>(hch c z).2.2.1 x c e rfl;by_cases hc:c∈X.fs
  .obtain⟨sl,q⟩:=slot c o (I.yu x c e) hc Gi ho (I.rQ x c e);exact⟨_,q,hd⟩
  .exact⟨o,keep c o (I.yu x c e) hc Gi ho (I.rQ x c e),hd⟩
 refine⟨I.ok,I.os,hg,⟨λb o e n hb hx=>?_,λb o e n hb hx=>?_,λb o e n hx=>?_,λb o e hx=>?_,λb xs e=>tups b xs (I.base.tups b xs e),λb o xs e=>oV b o xs (I.base.oV b o xs e),λb ps e=>?_⟩,?_,λx c e=>?_,?_,λx c e=>?_,λp hp=>?_,hok,I.len⟩
 .exact keep b o (neL b o e) hb (Kv b o e hx) (I.base.keep b o e n hb hx) (I.base.free b o e n hx)
 .obtain⟨sl,e1⟩:=I.base.slot b o e n hb hx;obtain⟨sl',e2⟩:=slot b _ (neL b o e) hb (Kv b o e hx) e1 (I.base.free b o e n hx);exact⟨sl',e2⟩
 .obtain⟨o',e1⟩:=I.base.there b o e hx;exact free b o' (Kv b o e hx) e1 (I.base.free b o e n hx)
 .obtain⟨o',e1⟩:=I.base.there b o e hx;exact there b o' (Kv b o e hx) e1
 .obtain⟨m1,e1⟩:=I.base.pI b ps e;obtain⟨m2,e2⟩:=pI b _ e1;exact⟨m1++m2,by rw[e2,Yj5]⟩
 .obtain⟨m,hn,hl⟩:=I.loc;refine⟨m,ns m hn,λi x v e1 e2 e3=>?_⟩;obtain⟨u,r,l⟩:=hl i x v e1 e2 e3;refine⟨u,r,?_⟩;rcases l with l|⟨k,c,e,z⟩
  .exact .inl l
  .exact .inr ⟨k,c,e,cellK x c e _ z⟩
 .obtain⟨v,z⟩:=I.cell x c e;exact⟨v,cellK x c e v z⟩
 .obtain⟨m,⟨o,_,_,ho,_⟩,_⟩:=I.loc;exact free _ o (λz=>(hch _ z).2.1 rfl) ho I.free
 .obtain⟨v,o,ho,hd⟩:=I.cell x c e;exact free c o (λz=>(hch c z).2.2.1 x c e rfl) ho (I.rQ x c e)
 .obtain⟨e,n,ne,nf,d⟩:=I.pin p hp;have Gi:p.1∉ch:=λz=>(hch p.1 z).2.2.2 p hp rfl;exact⟨keep p.1 p.2 ne nf Gi e n,free p.1 p.2 Gi e n,ne,nf,d⟩
theorem Inv.un(I:Inv X pins σ H s)(u:Un X.fs [] H H' s.heap h')(hok:iy X.prog X.w H' h'):Inv X pins σ H' {s with heap:=h',toks:=t'}:=by obtain⟨m,⟨o,es,ep,ho,r⟩,_⟩:=id I.loc;obtain⟨sl,hL⟩:=u.any ho I.free (by simp);exact I.step (g':=s.gens) (d':=s.drawn) (ch:=[]) (λ_ z=>nomatch z) (λb o _ hb _ e n=>u.keep b o e n hb (by simp)) (λb o _ hb _ e n=>u.slot b o e n hb (by simp)) (λb o _ e n=>u.free b o e n (by simp)) (λb o _ e=>u.there b o e (by simp)) u.tups u.oV u.pI (λm' hm=>by obtain⟨o',es',ep',ho',r'⟩:=hm;rw[ho]at ho';cases ho';exact⟨_,es',ep',hL,r'⟩) hok I.bare
theorem Inv.call{g':Array GenState}{d':Drawn}(I:Inv X pins σ H s)(u:Un (frs X.stack) ch H H' s.heap h')(hok:iy X.prog X.w H' h')(hg:ut g')(hch:∀b∈ch,(b∈X.ex\/X.s₀.heap.objs.size<=b)/\b≠X.env.locals/\(∀x c,X.env.cells.lookup x=Ya c->c≠b)/\∀p∈X.pn++pins,p.1≠b):
  Inv X pins σ H' {s with heap:=h',gens:=g',drawn:=d',toks:=t'}:=by
 obtain⟨m,⟨o,es,ep,ho,r⟩,_⟩:=id I.loc;obtain⟨sl,hL⟩:=u.any ho I.free λz=>(hch _ z).2.1 rfl;exact I.step (ch:=ch) hch (λb o hL hb hc e n=>u.keep b o e n (λz=>(Yo.mp (I.Pa b z)).elim hL hb) hc) (λb o _ _ hc e n=>u.any e n hc) (λb o hc e n=>u.free b o e n hc) (λb o hc e=>u.there b o e hc) u.tups u.oV u.pI (λm' hm=>by obtain⟨o',es',ep',ho',r'⟩:=hm;rw[ho]at ho';cases ho';exact⟨_,es',ep',hL,r'⟩) hok hg
theorem Inv.turned{it:Y4}(I:Inv X pins σ H s)(k:∀b o,b≠it->s.heap.get? b=Ya o->h'.get? b=Ya o)(hn:H it=Ym)(hL:it≠X.env.locals)(h1:it∈X.ex\/X.s₀.heap.objs.size<=it)(h2:∀x c,X.env.cells.lookup x=Ya c->c≠it)(h3:∀p∈X.pn++pins,p.1≠it):Inv X pins σ H {s with heap:=h',toks:=t'}:=by
 have Gj:∀b u,H b=Ya u->b≠it:=λb u e z=>by rw[z,hn]at e;cases e
 refine I.step (g':=s.gens) (d':=s.drawn) (ch:=[it]) (λb hb=>?_) (λb o _ _ hc e _=>k b o (λz=>hc (by simp[z])) e) (λb o _ _ hc e _=>⟨o.slots,k b o (λz=>hc (by simp[z])) e⟩) (λ_ _ _ _ n=>n)
  (λb o hc e=>⟨o,k b o (λz=>hc (by simp[z])) e⟩) (λ_ _ e=>e) (λ_ _ _ e=>e) (λb ps e=>⟨#[],by rw[e];simp⟩) (λm hm=>?_) (λb u e=>?_) I.bare
 .have e:b=it:=by simpa using hb
  subst e;exact⟨h1,hL,h2,h3⟩
 .obtain⟨o,es,ep,ho,r⟩:=hm;exact⟨o,es,ep,k _ o (dw hL) ho,r⟩
 .refine(I.hok b u e).stay (λc v hc q=>k c v ?_ q) (λ_ q=>q) λ_ _ q=>q;rcases hc with z|z
  .rw[z];exact Gj b u e
  .exact Gj c _ z
theorem Inv.tok(I:Inv X pins σ H s)(t:Nat):Inv X pins σ H {s with toks:=t}:=I.un (h':=s.heap) (t':=t) Un.refl I.hok
theorem Inv.kept(I:Inv X pins σ H s)(k:∀b u,s.heap.get? b=Ya u->h'.get? b=Ya u):Inv X pins σ H {s with heap:=h',toks:=t'}:=I.un (Un.kept k) (I.hok.kept k)
theorem Inv.laid{a:Y4}{o:HO}(I:Inv X pins σ H s)(k:∀b u,s.heap.get? b=Ya u->h'.get? b=Ya u)(hp:s.heap.objs.size<=a)(new:gZ X.prog X.w (upd H a o) h' a o):
  Inv X pins σ (upd H a o) {s with heap:=h',toks:=t'}:=I.un (Un.laid k hp (I.hok.fresh hp)) (I.hok.laid k hp new)
theorem Inv.write{x e:Y4}{o:HO}(I:Inv X pins σ H s)(mu:Kq (H x))(he:e=x\/H e=Ya (.own x))(k:∀b u,b≠e->s.heap.get? b=Ya u->h'.get? b=Ya u)(heo:∃u,h'.get? e=Ya u)(new:gZ X.prog X.w (upd H x o) h' x o):Inv X pins σ (upd H x o) {s with heap:=h',toks:=t'}:=I.un (Un.write mu he k heo) (I.hok.write mu he k heo new)
theorem Inv.Xu{XM:List (Y4×aP)}(I:Inv X pins σ H s)(h:∀p∈XM,s.heap.get? p.1=Ya p.2/\H p.1=Ym/\p.1≠X.env.locals/\p.1∉X.fs/\∀v,p.2.data≠ .cell v):Inv X XM σ H s:=⟨I.ok,I.os,I.bare,I.base,I.loc,I.cell,I.free,I.rQ,λp hp=>(fj.mp hp).elim (λz=>I.pin p (vI _ z)) (h p),I.hok,I.len⟩
theorem Zmw{N:List aj}(hN:N.Nodup){i j:Nat}{x:aj}(a:N[i]?=Ya x)(b:N[j]?=Ya x):i=j:=by obtain⟨h1,e1⟩:=Ye.mp a;obtain⟨h2,e2⟩:=Ye.mp b;exact(Yli hN).mp (e1.trans e2.symm)
theorem R6{M:Model}{A:bW}{i:Nat}{x:aj}{v:V}{u:Yh}{Q:Unit->Yl->Prop}(I:Inv X pins σ H s)(hN:X.N.Nodup)(hi:X.N[i]?=Ya x)(hx:Loc X.env.scope x)(r:RelV v u)(h:∀s',Inv X pins (σ.set i (Ya v)) H s'->(∃a,A_ a s.heap s'.heap/\(a=X.env.locals\/X.env.cells.lookup x=Ya a))->Q () s')(hf:X.fn x=true\/X.env.scope.names.lookup x=Ya .local:=by first|exact .inl rfl|exact .inr rfl|assumption):ao M A (storeName X.env x u) Q E s:=by
 obtain⟨m,hn,hl⟩:=id I.loc;have hcls:(X.env.scope.kind== .class|| (X.env.scope.kind== .module&&X.env.locals !=X.env.globals))=false:=by rw[I.ok.kind];rfl
 have hiσ:i<σ.length:=by rw[I.len];exact(Ye.mp hi).1
 have yu:=I.yu;have tracked:∀{a:Y4} {h':aR},(∃o,s.heap.get? a=Ya o/\H a=Ym)->A_ a s.heap h'->iy X.prog X.w H h':=λ{a h'} ha hs b ob e=>by
  obtain⟨_,_,hfree⟩:=ha;refine(I.hok b ob e).stay (λc w' hc q=>(hs.2 c ?_).trans q) (λ_ q=>q) λ_ _ q=>q;rintro rfl;rcases hc with rfl|hc
  .rw[hfree]at e;cases e
  .rw[hfree]at hc;cases hc
 rcases hx with hk|hk
 .refine wpAny_storeName_local hk hn (λh' hn' hs=>?_) hcls;obtain⟨oL,_,_,hoL,_⟩:=id hn;refine h _ ⟨I.ok,I.os,I.bare,⟨λb o e n hb hx=>?_,λb o e n hb hx=>?_,I.base.free,λb o e hx=>?_,I.base.tups,I.base.oV,I.base.pI⟩,⟨_,hn',λj y v' e1 e2 e3=>?_⟩,λy c e=>?_,I.free,I.rQ,λp hp=>?_,tracked ⟨oL,hoL,I.free⟩ hs,by simpa using I.len⟩ ⟨_,hs,.inl rfl⟩
  .exact(hs.2 b (d8 (Y8 (Y7 e) I.ok.above))).trans (I.base.keep b o e n hb hx)
  .obtain⟨sl,e1⟩:=I.base.slot b o e n hb hx;exact⟨sl,(hs.2 b (d8 (Y8 (Y7 e) I.ok.above))).trans e1⟩
  .obtain⟨o',e1⟩:=I.base.there b o e hx;exact⟨o',(hs.2 b (d8 (Y8 (Y7 e) I.ok.above))).trans e1⟩
  .by_cases hj:j=i
   .subst hj;rw[hi]at e1;cases e1;rw[Yw hiσ]at e2;cases e2;exact⟨u,r,.inl ⟨hk,by simp⟩⟩
   .rw[Yp (dw hj)]at e2;obtain⟨u',r',q⟩:=hl j y v' e1 e2 e3;refine⟨u',r',?_⟩;rcases q with⟨k,e⟩|⟨k,c,e,z⟩
    .refine .inl ⟨k,?_⟩;have:y≠x:=λe=>hj (Zmw hN e1 (e▸hi));simp[this,e]
    .exact .inr ⟨k,c,e,z.sameBut hs (yu y c e)⟩
  .obtain⟨w',z⟩:=I.cell y c e;exact⟨w',z.sameBut hs (yu y c e)⟩
  .obtain⟨e,n,ne,nf,d⟩:=I.pin p hp;exact⟨(hs.2 p.1 ne).trans e,n,ne,nf,d⟩
 .have hfn:X.fn x=true:=by
   rcases hf with z|z
   .exact z
   .rw[z]at hk;cases hk
  obtain⟨c,hc⟩:=I.ok.has x (.inl hk);obtain⟨w',z⟩:=I.cell x c hc;refine wpAny_storeName_cell I.ok.kind hk hc z (λh' hc' hs=>?_);obtain⟨oc,hoc,AbB⟩:=id z;refine h {s with heap:=h'} ⟨I.ok,I.os,I.bare,⟨λb o e n hb hx=>?_,λb o e n hb hx=>?_,I.base.free,λb o e hx=>?_,I.base.tups,I.base.oV,I.base.pI⟩,⟨m,hn.sameBut hs (dw (yu x c hc)),λj y v' e1 e2 e3=>?_⟩,λy c' e=>?_,I.free,I.rQ,λp hp=>?_,tracked ⟨oc,hoc,I.rQ x c hc⟩ hs,by simpa using I.len⟩ ⟨c,hs,.inr hc⟩
  .exact(hs.2 b (d8 (Y8 (Y7 e) (I.ok.cab x c hfn hc)))).trans (I.base.keep b o e n hb hx)
  .obtain⟨sl,e1⟩:=I.base.slot b o e n hb hx;exact⟨sl,(hs.2 b (d8 (Y8 (Y7 e) (I.ok.cab x c hfn hc)))).trans e1⟩
  .obtain⟨o',e1⟩:=I.base.there b o e hx;exact⟨o',(hs.2 b (d8 (Y8 (Y7 e) (I.ok.cab x c hfn hc)))).trans e1⟩
  .by_cases hj:j=i
   .subst hj;rw[hi]at e1;cases e1;rw[Yw hiσ]at e2;cases e2;exact⟨u,r,.inr ⟨.inl hk,c,hc,hc'⟩⟩
   .rw[Yp (dw hj)]at e2;obtain⟨u',r',q⟩:=hl j y v' e1 e2 e3;refine⟨u',r',?_⟩;rcases q with q|⟨k,c',e,z'⟩
    .exact .inl q
    .refine .inr ⟨k,c',e,z'.sameBut hs ?_⟩;rintro rfl;exact hj (Zmw hN e1 (I.ok.inj _ _ _ e hc▸hi))
  .by_cases hcc:c'=c
   .subst hcc;exact⟨_,hc'⟩
   .obtain⟨w2,z2⟩:=I.cell y c' e;exact⟨w2,z2.sameBut hs hcc⟩
  .obtain⟨e,n,ne,nf,d⟩:=I.pin p hp;refine⟨(hs.2 p.1 ?_).trans e,n,ne,nf,d⟩;intro q;rw[q,hoc]at e;have q':oc=p.2:=Y2 e;exact d w' (by rw[←q'];exact AbB)
theorem Zm0{M:Model}{A:bW}{i:Nat}{x:aj}{v:V}{u:Yh}{Q:Unit->Yl->Prop}(I:Inv X pins σ H s)(hN:X.N.Nodup)(hi:X.N[i]?=Ya x)(hx:Loc X.env.scope x)(r:RelV v u)(h:∀s',Inv X pins (σ.set i (Ya v)) H s'->Q () s')(hf:X.fn x=true\/X.env.scope.names.lookup x=Ya .local:=by first|exact .inl rfl|exact .inr rfl|assumption):ao M A (storeName X.env x u) Q E s:=R6 I hN hi hx r (λs' I' _=>h s' I') hf
theorem Inv.call'{s':Yl}(I:Inv X pins σ H s)(ho:s'.os=s.os)(u:Un (frs X.stack) ch H H' s.heap s'.heap)(hok:iy X.prog X.w H' s'.heap)(hg:ut s'.gens)(hch:∀b∈ch,(b∈X.ex\/X.s₀.heap.objs.size<=b)/\b≠X.env.locals/\(∀x c,X.env.cells.lookup x=Ya c->c≠b)/\∀p∈X.pn++pins,p.1≠b):Inv X pins σ H' s':=by obtain⟨h',g',d',t',o'⟩:=s';have e:o'=s.os:=ho;subst e;exact I.call (g':=g') (t':=t') (d':=d') u hok hg hch
end
noncomputable abbrev XK:=Yh->Option Y4->Hp->Prop
noncomputable abbrev St:=List (Option V)
noncomputable abbrev VK:=V->Hp->Prop
noncomputable abbrev TE:=St->Hp->VK->Prop
noncomputable abbrev TT:=St->Hp->(Bool->Hp->Prop)->Prop
noncomputable abbrev TA:=St->Hp->(List V->Hp->Prop)->Prop
structure Ends where
 nx:St->Hp->Prop
 rt:VK
 bk:St->Hp->Prop:=λ_ _=>False
 ct:St->Hp->Prop:=λ_ _=>False
noncomputable abbrev TS:=Ends->St->Hp->Prop
inductive EP(X:Cx)(pins:List (Y4×aP))(σ:St)(Q:VK)(u:Yh)(s':Yl):Prop where
 |mk (v:V) (H':Hp) (I:Inv X pins σ H' s') (r:RelV v u) (q:Q v H'):EP X pins σ Q u s'
inductive TP(X:Cx)(pins:List (Y4×aP))(σ:St)(Q:Bool->Hp->Prop)(b:Bool)(s':Yl):Prop where
 |mk (H':Hp) (I:Inv X pins σ H' s') (q:Q b H'):TP X pins σ Q b s'
inductive AP(X:Cx)(pins:List (Y4×aP))(σ:St)(Q:List V->Hp->Prop)(us:List Yh)(s':Yl):Prop where
 |mk (vs:List V) (H':Hp) (I:Inv X pins σ H' s') (r:Vals vs us) (q:Q vs H'):AP X pins σ Q us s'
def SP(X:Cx)(pins:List (Y4×aP))(D:Ends)(f:Flow)(s':Yl):Prop:=
 match f with
 | .next=>∃σ' H',Inv X pins σ' H' s'/\D.nx σ' H'|.brk=>∃σ' H',Inv X pins σ' H' s'/\D.bk σ' H'|.cont=>∃σ' H',Inv X pins σ' H' s'/\D.ct σ' H'|.ret u=>∃v σ' H',Inv X pins σ' H' s'/\RelV v u/\D.rt v H'
def PE(X:Cx)(e:Expr)(t:TE):Prop:=∀(pins:List (Y4×aP)) (s:Yl) (σ:St) (H:Hp) (Q:VK),Inv X pins σ H s->t σ H Q->ao (aB X.prog X.w) X.A (aM e X.env) (EP X pins σ Q) X.xe s
def PT(X:Cx)(e:Expr)(t:TT):Prop:=∀(pins:List (Y4×aP)) (s:Yl) (σ:St) (H:Hp) (Q:Bool->Hp->Prop),Inv X pins σ H s->t σ H Q->ao (aB X.prog X.w) X.A (isTrue e X.env (aM e X.env)) (TP X pins σ Q) X.xe s
def PW(X:Cx)(e:Expr)(t:TT):Prop:=∀(whole:pN Yh) (pins:List (Y4×aP)) (s:Yl) (σ:St) (H:Hp) (Q:Bool->Hp->Prop),Inv X pins σ H s->t σ H Q->ao (aB X.prog X.w) X.A (isTrue e X.env whole) (TP X pins σ Q) X.xe s
theorem PW.pt{X:Cx}{e:Expr}{t:TT}(h:PW X e t):PT X e t:=h _
def PA(X:Cx)(es:List Expr)(t:TA):Prop:=∀(pos:aZ) (pins:List (Y4×aP)) (s:Yl) (σ:St) (H:Hp) (Q:List V->Hp->Prop),Inv X pins σ H s->t σ H Q->ao (aB X.prog X.w) X.A (JL (cN pos (Yz es X.env))) (AP X pins σ Q) X.xe s
def PS(X:Cx)(st:Yep)(t:TS):Prop:=∀(pins:List (Y4×aP)) (s:Yl) (σ:St) (H:Hp) (D:Ends),Inv X pins σ H s->t D σ H->ao (aB X.prog X.w) X.A (exec st X.env) (SP X pins D) X.xe s
def kZ(X:Cx)(st:List Yep)(t:TS):Prop:=∀(pins:List (Y4×aP)) (s:Yl) (σ:St) (H:Hp) (D:Ends),Inv X pins σ H s->t D σ H->ao (aB X.prog X.w) X.A (execs st X.env) (SP X pins D) X.xe s
theorem aJ{α:Type}{t:pN α}{Q Q':α->Yl->Prop}{M:Model}{A:bW}{s:Yl}(h:ao M A t Q E s)(hQ:∀a s,Q a s->Q' a s):ao M A t Q' E s:=j7 h hQ λ_ _ x=>x
end _L2
namespace _L2
open PySem PySem.Spec PyProof.Rows
variable{x:aj}
section
variable {X:Cx}
def Zzr(i:Nat):TE:=λσ H Q=>∃v,σ[i]?=Ya (Ya v)/\Q v H
def tC(v:V):TE:=λ_ H Q=>Q v H
theorem ZvH{i:Nat}{pos:aZ}(hN:X.N[i]?=Ya x)(hv:Ks X.env.scope x)(hd:autoParam ((x==("__debug__":aj))=false) qB)(hcd:autoParam ((x==("__classdict__":aj))=false) qB):PE X (.Name x pos) (Zzr i):=by
 intro pins s σ H Q I h;obtain⟨v,e,h⟩:=h;obtain⟨m,hn,hl⟩:=I.loc;obtain⟨u,r,l⟩:=hl i x v hN e hv;have fin:EP X pins σ Q u s:=⟨v,H,I,r,h⟩;rcases l with⟨hk,hm⟩|⟨hk,c,hc,hcell⟩
 .exact QM (wpAny_loadName_local I.ok.kind hk hn hm fin) hd
 .rcases hk with hk|hk
  .exact QM (wpAny_loadName_cell I.ok.kind hk hc hcell fin) hd
  .exact QM (wpAny_loadName_free I.ok.kind hk hc hcell fin hcd) hd
theorem R7{i j pos}:PE X (.Constant (.int i) j pos) (tC (.int i)):=λ_ _ _ H _ I h=>wpAny_Constant_int ⟨.int i,H,I.tok _,⟨_,rfl⟩,h⟩
theorem Zx2{b j pos}:PE X (.Constant (.bool b) j pos) (tC (.bl b)):=λ_ _ _ H _ I h=>Constant_bool ⟨.bl b,H,I,rfl,h⟩
theorem Zwc{j pos}:PE X (.Constant .none j pos) (tC .non):=λ_ _ _ H _ I h=>Constant_none ⟨.non,H,I,rfl,h⟩
theorem ZvV{x j pos}:PE X (.Constant (.str x) j pos) (tC (.str x)):=λ_ _ _ H _ I h=>Calls.Constant_str ⟨.str x,H,I.tok _,⟨_,rfl⟩,h⟩
def Gl(X:Cx)(x:aj):Prop:=X.env.kindOf x=Ya .globalImplicit
theorem R8{E:Yh->Yl->Prop}{pins:List (Y4×aP)}{s:Yl}{σ:St}{H:Hp}{u:Yh}{pos:aZ}{Q:Yh->Yl->Prop}(I:Inv X pins σ H s)(hg:Gl X x)(hm:X.mg x=Ya u)(h:Q u s)(hd:autoParam ((x==("__debug__":aj))=false) qB):ao (aB X.prog X.w) X.A (aM (.Name x pos) X.env) Q E s:=Ygh I.ok.kind hg (Calls.loadGlobal_global (by rw[I.ok.glob];exact I.mod.glob.keeps I.bk) hm h) hd
theorem yw{E:Yh->Yl->Prop}{pins:List (Y4×aP)}{s:Yl}{σ:St}{H:Hp}{u:Yh}{pos:aZ}{Q:Yh->Yl->Prop}(I:Inv X pins σ H s)(hg:Gl X x)(hm:X.mg x=Ym)(hv:kY x=Ya u)(h:Q u s)(hn:autoParam (x≠ "__name__") qB)(hd:autoParam ((x==("__debug__":aj))=false) qB):ao (aB X.prog X.w) X.A (aM (.Name x pos) X.env) Q E s:=by obtain⟨mb,h1,h2⟩:=I.mod.blt;exact Ygh I.ok.kind hg (Calls.loadGlobal_builtin (by rw[I.ok.glob];exact I.mod.glob.keeps I.bk) hm (by rw[I.ok.blt];exact h1.keeps I.bk) ((h2 x hn).trans hv) h) hd
theorem Bo{v:V}{u:Yh}{pos:aZ}(hg:Gl X x)(hm:X.mg x=Ya u)(r:RelV v u)(hd:autoParam ((x==("__debug__":aj))=false) qB):PE X (.Name x pos) (tC v):=λ_ _ _ H _ I h=>R8 I hg hm ⟨v,H,I,r,h⟩ hd
theorem R9{v:V}{u:Yh}{pos:aZ}(hg:Gl X x)(hm:X.mg x=Ym)(hv:kY x=Ya u)(r:RelV v u)(hn:autoParam (x≠ "__name__") qB)(hd:autoParam ((x==("__debug__":aj))=false) qB):PE X (.Name x pos) (tC v):=λ_ _ _ H _ I h=>yw I hg hm hv ⟨v,H,I,r,h⟩ hn hd
variable {a b:Expr} {ta tb:TE} {pos:aZ}
def tB(t:TE):TT:=λσ H Q=>t σ H λx H1=>∃c,x= .bl c/\Q c H1
theorem Zwo{e:Expr}{t:TE}(h:PE X e t)(he:∀whole,isTrue e X.env whole=(do let v ←whole;Fv e.pos;vU [v] (truthy v)):=by intro _;rfl):PT X e (tB t):=by intro pins s σ H Q I hw;refine isTrue_plain (aJ (h pins s σ H _ I hw) λv s1 ak=>?_) (he _);obtain⟨x,H1,I1,r1,q1⟩:=ak;obtain⟨d,rfl,q⟩:=q1;cases r1;exact qF ⟨H1,I1,q⟩
variable {tA Kw:TT} {rest:List Expr}
def ZyK(t u:TT):TT:=λσ H Q=>t σ H λc H1=>if c=true then u σ H1 Q else Q false H1
def tOr(t u:TT):TT:=λσ H Q=>t σ H λc H1=>if c=true then Q true H1 else u σ H1 Q
def Zzu(t:TT):TT:=λσ H Q=>t σ H λc H1=>Q (!c) H1
theorem ZtR(ha:PT X a tA):PW X (.BoolOp .And [a] pos) tA:=by
 intro wh pins s σ H Q I h;refine isTrue_and (aJ (ha pins s σ H Q I h) λc s1 e=>?_);cases c with
 |true=>exact isTrue_and_nil e|false=>exact e
theorem ZvQ(ha:PT X a tA):PW X (.BoolOp .Or [a] pos) tA:=by
 intro wh pins s σ H Q I h;refine isTrue_or (aJ (ha pins s σ H Q I h) λc s1 e=>?_);cases c with
 |false=>exact isTrue_or_nil e|true=>exact e
theorem ZvP(ha:PT X a tA)(hb:PW X (.BoolOp .And (b::rest) pos) Kw):PW X (.BoolOp .And (a::b::rest) pos) (ZyK tA Kw):=by
 intro wh pins s σ H Q I h;refine isTrue_and (aJ (ha pins s σ H _ I h) λc s1 ak=>?_);obtain⟨H1,I1,q1⟩:=ak;cases c with
 |true=>exact hb wh pins s1 σ H1 Q I1 q1|false=>exact⟨H1,I1,q1⟩
theorem Zx4(ha:PT X a tA)(hb:PW X (.BoolOp .Or (b::rest) pos) Kw):PW X (.BoolOp .Or (a::b::rest) pos) (tOr tA Kw):=by
 intro wh pins s σ H Q I h;refine isTrue_or (aJ (ha pins s σ H _ I h) λc s1 ak=>?_);obtain⟨H1,I1,q1⟩:=ak;cases c with
 |true=>exact⟨H1,I1,q1⟩|false=>exact hb wh pins s1 σ H1 Q I1 q1
theorem Zvm(ha:PT X a tA):PT X (.UnaryOp .Not a pos) (Zzu tA):=by intro pins s σ H Q I h;exact isTrue_not (aJ (ha pins s σ H (λc H1=>Q (!c) H1) I h) λc s' ⟨H',I',q⟩=>⟨H',I',q⟩)
def Zxt(ta tb:TE):TE:=λσ H Q=>ta σ H λx H1=>∃c,x= .bl c/\if c=true then tb σ H1 Q else Q (.bl false) H1
def Zzj(ta tb:TE):TE:=λσ H Q=>ta σ H λx H1=>∃c,x= .bl c/\if c=true then Q (.bl true) H1 else tb σ H1 Q
def ZxU(ta:TE):TE:=λσ H Q=>ta σ H λx H1=>∃c,x= .bl c/\Q (.bl (!c)) H1
theorem ZvB{op}{t:TE}(h:PE X a t):PE X (.BoolOp op [a] pos) t:=λpins s σ H Q I hw=>BoolOp_one (h pins s σ H Q I hw)
theorem ZuW(ha:PE X a ta)(hb:PE X (.BoolOp .And (b::rest) pos) tb):PE X (.BoolOp .And (a::b::rest) pos) (Zxt ta tb):=by
 intro pins s σ H Q I h;refine BoolOp_and (aJ (ha pins s σ H _ I h) λv s1 ak=>?_);obtain⟨x,H1,I1,r1,q1⟩:=ak;obtain⟨c,rfl,q1⟩:=q1;cases r1;refine qF ?_;cases c with
 |true=>exact hb pins s1 σ H1 Q I1 q1|false=>exact⟨.bl false,H1,I1,rfl,q1⟩
theorem Zx7(ha:PE X a ta)(hb:PE X (.BoolOp .Or (b::rest) pos) tb):PE X (.BoolOp .Or (a::b::rest) pos) (Zzj ta tb):=by
 intro pins s σ H Q I h;refine BoolOp_or (aJ (ha pins s σ H _ I h) λv s1 ak=>?_);obtain⟨x,H1,I1,r1,q1⟩:=ak;obtain⟨c,rfl,q1⟩:=q1;cases r1;refine qF ?_;cases c with
 |false=>exact hb pins s1 σ H1 Q I1 q1|true=>exact⟨.bl true,H1,I1,rfl,q1⟩
theorem Zwt(ha:PE X a ta):PE X (.UnaryOp .Not a pos) (ZxU ta):=by intro pins s σ H Q I h;refine UnaryOp_ (aJ (ha pins s σ H _ I h) λv s1 ak=>?_);obtain⟨x,H1,I1,r1,q1⟩:=ak;obtain⟨c,rfl,q1⟩:=q1;cases r1;exact not_of (qF ⟨.bl (!c),H1,I1,rfl,q1⟩)
def R_(t:TT)(ta tb:TE):TE:=λσ H Q=>t σ H λc H1=>if c=true then ta σ H1 Q else tb σ H1 Q
theorem Zru{c:Expr}(hc:PT X c tA)(ha:PE X a ta)(hb:PE X b tb):PE X (.IfExp c a b pos) (R_ tA ta tb):=by
 intro pins s σ H Q I h;refine wpAny_IfExp (aJ (hc pins s σ H _ I h) λd s1 ak=>?_);obtain⟨H1,I1,q1⟩:=ak;cases d with
 |true=>exact ha pins s1 σ H1 Q I1 q1|false=>exact hb pins s1 σ H1 Q I1 q1
end
end _L2
namespace _L2
open PySem PySem.Spec PyProof.Rows
def bM(K:Yb)(H:Hp)(a:Y4)(xs:List V):Prop:=
 Rd H a (.lst xs)\/
  ∃(o:aP) (its:Array Yh) (n:Nat),K.lookup a=Ya o/\o.cls= .type "list" /\o.dict=Ym/\o.data= .seq its n/\its.size<=bG/\Vals xs its.toList
def cW(K:Yb)(H:Hp)(a:Y4)(xs:List V):Prop:=
 Rd H a (.tup xs)\/
  ∃(o:aP) (its:Array Yh) (n:Nat),K.lookup a=Ya o/\(o.cls= .type "tuple" /\o.dict=Ym)/\o.data= .seq its n/\its.size<=bG/\Vals xs its.toList
noncomputable def ZzA:Yh->Option V
 | .none=>Ya .non|.bool b=>Ya (.bl b)|.int i _=>Ya (.int i)|.str x _=>Ya (.str x)
 | .bytes b _=>Ya (.Bm b)|.float b _=>Ya (.flt b)|.ref a=>Ya (.ref a)|.type n=>Ya (.ty n)
 |_=>Ym
theorem RelV.abs{x:V}{u:Yh}(r:RelV x u):ZzA u=Ya x:=by
 cases x with
 |non=>cases r;rfl|bl _=>cases r;rfl|int _=>obtain⟨t,rfl⟩:=r;rfl|str _=>obtain⟨t,rfl⟩:=r;rfl
 |Bm _=>obtain⟨t,rfl⟩:=r;rfl|flt _=>obtain⟨t,rfl⟩:=r;rfl|ref _=>cases r;rfl|ty _=>cases r;rfl
theorem RelV.inj{x y:V}{u:Yh}(r:RelV x u)(q:RelV y u):x=y:=Y2 (r.abs.symm.trans q.abs)
theorem Vals.inj:∀{xs ys:List V} {us:List Yh},Vals xs us->Vals ys us->xs=ys
 |_,_,_,.nil,.nil=>rfl|_,_,_,.cons r t,.cons r' t'=>by rw[r.inj r',Vals.inj t t']
variable{K:Yb}
section
variable {X:Cx} {pins:List (Y4×aP)} {σ:St} {H:Hp} {s:Yl} {a:Y4} {xs ys:List V}
theorem bM.of(h:H a=Ya (.lst xs)):bM K H a xs:=.inl (.inl h)
theorem cW.of(h:H a=Ya (.tup xs)):cW K H a xs:=.inl (.inl h)
theorem Inv.list(I:Inv X pins σ H s)(h:bM X.K H a xs):∃its:List Yh,Vals xs its/\PlainL s.heap a its.toArray/\xs.length<=bG:=by
 rcases h with h|⟨o,its,n,hk,hc,hd,hs,hz,r⟩
 .obtain⟨z,its,n,r,e⟩:=h.ok I.hok;exact⟨its,r,⟨_,n,e,rfl,rfl,rfl⟩,z⟩
 .refine⟨its.toList,r,⟨o,n,I.fG a o hk,hc,hd,by simpa using hs⟩,?_⟩;have e:=r.length;simp only[Kc]at e;exact lC 2 2199576973345 T1 e hz
theorem Inv.tuple(I:Inv X pins σ H s)(h:cW X.K H a xs):∃its:List Yh,Vals xs its/\IsTup s.heap a its.toArray/\xs.length<=bG:=by
 rcases h with h|⟨o,its,n,hk,hc,hs,hz,r⟩
 .obtain⟨z,its,r,p⟩:=h.ok I.hok;exact⟨its,r,p.tup,z⟩
 .refine⟨its.toList,r,⟨o,I.fG a o hk,hc.1,n,by simpa using hs⟩,?_⟩;have e:=r.length;simp only[Kc]at e;exact lC 2 2199576973345 T1 e hz
theorem Inv.O8(I:Inv X pins σ H s)(h:bM X.K H a xs)(h':bM X.K H a ys):xs=ys:=by
 obtain⟨its,r,⟨o,n,e,_,_,d⟩,_⟩:=I.list h;obtain⟨its',r',⟨o',n',e',_,_,d'⟩,_⟩:=I.list h';rw[e]at e';cases e';rw[d]at d';injection d' with d1 _;have:its=its':=by simpa using congrArg Bh d1
 subst this;exact r.inj r'
theorem Inv.Abd(I:Inv X pins σ H s)(h:cW X.K H a xs):∃its:List Yh,Vals xs its/\sG s.heap a its.toArray/\xs.length<=bG:=by
 rcases h with h|⟨o,its,n,hk,hc,hs,hz,r⟩
 .obtain⟨z,its,r,p⟩:=h.ok I.hok;exact⟨its,r,p,z⟩
 .refine⟨its.toList,r,⟨o,I.fG a o hk,hc,n,by simpa using hs⟩,?_⟩;have e:=r.length;simp only[Kc]at e;exact lC 2 2199576973345 T1 e hz
theorem Inv.O7(I:Inv X pins σ H s)(h:cW X.K H a xs)(h':cW X.K H a ys):xs=ys:=by
 obtain⟨its,r,⟨o,e,_,n,d⟩,_⟩:=I.tuple h;obtain⟨its',r',⟨o',e',_,n',d'⟩,_⟩:=I.tuple h';rw[e]at e';cases e';rw[d]at d';injection d' with d1 _;have:its=its':=by simpa using congrArg Bh d1
 subst this;exact r.inj r'
end
noncomputable abbrev Cx.wish(X:Cx)(E:Yh->Yl->Prop):Cx:={X with xe:=E}
noncomputable abbrev Cx.yx(X:Cx):Cx:=X.wish λ_ _=>False
theorem Cx.Ok.wish{X:Cx}(ok:X.Ok)(E:Yh->Yl->Prop):(X.wish E).Ok:=⟨ok.mod,ok.kind,ok.glob,ok.blt,ok.above,ok.inj,ok.has,ok.cab,ok.hd,ok.frames,ok.iG,ok.Ku,ok.bs,ok.qO,ok.Eu,ok.zY,ok.oW,ok.wk⟩
theorem Cx.Ok.vA{X:Cx}{E:Yh->Yl->Prop}(ok:(X.wish E).Ok):X.Ok:=⟨ok.mod,ok.kind,ok.glob,ok.blt,ok.above,ok.inj,ok.has,ok.cab,ok.hd,ok.frames,ok.iG,ok.Ku,ok.bs,ok.qO,ok.Eu,ok.zY,ok.oW,ok.wk⟩
section
variable {X:Cx} {pins:List (Y4×aP)} {σ:St} {H:Hp} {s:Yl} {E:Yh->Yl->Prop}
theorem Inv.wish(I:Inv X pins σ H s)(E:Yh->Yl->Prop):Inv (X.wish E) pins σ H s:=⟨I.ok.wish E,I.os,I.bare,I.base,I.loc,I.cell,I.free,I.rQ,I.pin,I.hok,I.len⟩
theorem Inv.vA(I:Inv (X.wish E) pins σ H s):Inv X pins σ H s:=⟨I.ok.vA,I.os,I.bare,I.base,I.loc,I.cell,I.free,I.rQ,I.pin,I.hok,I.len⟩
theorem SP.vA{D:Ends}{f:Flow}{s':Yl}(h:SP (X.wish E) pins D f s'):SP X pins D f s':=by
 cases f with
 |next=>obtain⟨σ',H',I,q⟩:=h;exact⟨σ',H',I.vA,q⟩|brk=>obtain⟨σ',H',I,q⟩:=h;exact⟨σ',H',I.vA,q⟩|cont=>obtain⟨σ',H',I,q⟩:=h;exact⟨σ',H',I.vA,q⟩|ret u=>obtain⟨v,σ',H',I,r,q⟩:=h;exact⟨v,σ',H',I.vA,r,q⟩
theorem kZ.yx{st:List Yep}{t:TS}(h:kZ X.yx st t):kZ X st t:=λpins s σ H D I hw=>j7 (h pins s σ H D (I.wish _) hw) (λ_ _ q=>q.vA) λ_ _ z=>jM z
end
section
variable {X:Cx} {st:Yep} {rest:List Yep} {t u:TS} {e:Expr} {te:TE} {pos:aZ}
def ZxE:TS:=λD σ H=>D.nx σ H
def ZyY(t u:TS):TS:=λD σ H=>t {D with nx:=u D} σ H
theorem Zs9:kZ X [] ZxE:=λ_ _ σ H _ I h=>Jy ⟨σ,H,I,h⟩
theorem ZqG(h1:PS X st t)(h2:kZ X rest u):kZ X (st::rest) (ZyY t u):=by
 intro pins s σ H D I h;refine Ylj (aJ (h1 pins s σ H {D with nx:=u D} I h) λf s1 q=>?_);cases f with
 |next=>obtain⟨σ',H',I',q⟩:=q;exact h2 pins s1 σ' H' D I' q|ret v=>exact q|brk=>exact q
 |cont=>exact q
theorem Zs8(h1:PS X st t):kZ X [st] t:=by
 intro pins s σ H D I h;refine Ylj (aJ (h1 pins s σ H D I h) λf s1 q=>?_);cases f with
 |next=>exact Jy q|ret v=>exact q|brk=>exact q|cont=>exact q
def ZwT:TS:=λD σ H=>D.bk σ H
theorem Zrh:PS X (.Break pos) ZwT:=λ_ _ σ H _ I h=>wpAny_Break ⟨σ,H,I,h⟩
theorem Inv.quiet{pins:List (Y4×aP)}{σ:St}{H:Hp}{s:Yl}(I:Inv X pins σ H s):interactive X.env=false:=by simp[interactive,I.ok.kind]
def Zx0(te:TE):TS:=λD σ H=>te σ H λ_ H1=>D.nx σ H1
theorem ZtM(he:PE X e te)(hs:autoParam (vR e Ym pos.line X.env=pure false) qA):PS X (.Expr e pos) (Zx0 te):=by intro pins s σ H D I h;exact wpAny_Expr_any (aJ (he pins s σ H _ I h) λv s1 ⟨x,H1,I1,r1,q1⟩=>⟨σ,H1,I1,q1⟩) I.quiet hs
def Zzc(te:TE):TS:=λD σ H=>te σ H D.rt
theorem Zvp(he:PE X e te):PS X (.Return (Ya e) pos) (Zzc te):=by intro pins s σ H D I h;exact wpAny_Return_some (aJ (he pins s σ H _ I h) λv s1 ⟨x,H1,I1,r1,q1⟩=>⟨x,σ,H1,I1,r1,q1⟩)
def Zzw(c:TT)(t u:TS):TS:=λD σ H=>c σ H λb H1=>if b=true then t D σ H1 else u D σ H1
theorem Zyk{c:Expr}{a b:List Yep}{tc:TT}(hc:PT X c tc)(ha:kZ X a t)(hb:kZ X b u):PS X (.If c a b pos) (Zzw tc t u):=by
 intro pins s σ H D I h;refine wpAny_If (aJ (hc pins s σ H _ I h) λd s1 ak=>?_);obtain⟨H1,I1,q1⟩:=ak;cases d with
 |true=>exact ha pins s1 σ H1 D I1 q1|false=>exact hb pins s1 σ H1 D I1 q1
end
noncomputable abbrev TG:=V->St->Hp->(St->Hp->Prop)->Prop
noncomputable abbrev qP:=List V->St->Hp->(St->Hp->Prop)->Prop
def PG(X:Cx)(target:Expr)(t:TG):Prop:=
 ∀(pins:List (Y4×aP)) (s:Yl) (σ:St) (H:Hp) (v:V) (u:Yh) (Q:St->Hp->Prop),Inv X pins σ H s->RelV v u->t v σ H Q ->
  ao (aB X.prog X.w) X.A (jK target X.env u) (λ_ s'=>∃σ' H',Inv X pins σ' H' s'/\Q σ' H') X.xe s
def qQ(X:Cx)(ts:List Expr)(t:qP):Prop:=
 ∀(pins:List (Y4×aP)) (s:Yl) (σ:St) (H:Hp) (vs:List V) (us:List Yh) (Q:St->Hp->Prop),Inv X pins σ H s->Vals vs us->t vs σ H Q ->
  ao (aB X.prog X.w) X.A (assignInOrder ((jJ ts X.env).map (·.2)) us) (λ_ s'=>∃σ' H',Inv X pins σ' H' s'/\Q σ' H') X.xe s
noncomputable abbrev Sd:=V->V->V->Hp->(Hp->Prop)->Prop
def Zya(X:Cx)(t:Sd):Prop:=
 ∀(pins:List (Y4×aP)) (s:Yl) (σ:St) (H:Hp) (o i v:V) (ov iv u:Yh) (Q:Hp->Prop),Inv X pins σ H s->RelV o ov->RelV i iv->RelV v u->t o i v H Q ->
  ao (aB X.prog X.w) X.A (setItem ov iv u) (λ_ s'=>∃H',Inv X pins σ H' s'/\Q H') X.xe s
variable{tg:Expr}
section
variable {X:Cx} {pos:aZ}
def Zus(i:Nat):TG:=λv σ H Q=>Q (σ.set i (Ya v)) H
theorem ZpJ{i:Nat}{x:aj}(hN:X.N.Nodup)(hi:X.N[i]?=Ya x)(hx:Loc X.env.scope x)(hf:X.fn x=true\/X.env.scope.names.lookup x=Ya .local:=by first|exact .inl rfl|exact .inr rfl|assumption):PG X (.Name x pos) (Zus i):=by intro pins s σ H v u Q I r h;exact Qu (Zm0 I hN hi hx r (λs' I'=>⟨_,H,I',h⟩) hf)
def Zy7:qP:=λvs σ H Q=>vs=[]/\Q σ H
def ZxS(t:TG)(u:qP):qP:=λvs σ H Q=>∃v r,vs=v::r/\t v σ H λσ' H'=>u r σ' H' Q
theorem ZtX:qQ X [] Zy7:=by intro pins s σ H vs us Q I r h;obtain⟨e,h⟩:=h;subst e;cases r;exact assignInOrder_nil ⟨σ,H,I,h⟩
theorem ZsJ{e:Expr}{es:List Expr}{t:TG}{u:qP}(h1:PG X e t)(h2:qQ X es u)(hs:autoParam ((jJ (e::es) X.env).map (·.2)=jK e X.env::(jJ es X.env).map (·.2)) qA):qQ X (e::es) (ZxS t u):=by
 intro pins s σ H vs us Q I r h;obtain⟨v,vr,e1,h⟩:=h;subst e1;cases r with
 |cons r rr=>rw[hs];refine assignInOrder_cons (aJ (h1 pins s σ H _ _ _ I r h) λ_ s1 ak=>?_);obtain⟨σ1,H1,I1,q1⟩:=ak;exact h2 pins s1 σ1 H1 _ _ Q I1 rr q1
def Zzm(K:Yb)(n:Nat)(t:qP):TG:=λv σ H Q=>∃a xs,v= .ref a/\cW K H a xs/\xs.length=n/\t xs σ H Q
theorem Zwm{es:List Expr}{k:Nat}{t:qP}{n:Nat}(hc:X.calm=true)(h:qQ X es t)(hn:autoParam ((jJ es X.env).length=n) qA)(hst:autoParam ((jJ es X.env).findIdx? (·.1)=Ym) qA):PG X (.Tuple es k pos) (Zzm X.K n t):=by intro pins s σ H v u Q I r hw;obtain⟨a,xs,e1,hq,hl,hw⟩:=hw;subst e1;cases r;obtain⟨its,rv,ht,hz⟩:=I.tuple hq;refine assign_Tuple_tuple (I.ok.hd hc) ht (by simp[hn,←hl,rv.length]) hst λh' hx=>?_;have I1:Inv X pins σ H {s with heap:=h'}:=I.kept (t':=s.toks) λb o e=>hx b o (d8 (Y7 e)) e;exact h pins _ σ H xs _ Q I1 (by simpa using rv) hw
def Zzq(to ti:TE)(t:Sd):TG:=λv σ H Q=>to σ H λo H1=>ti σ H1 λi H2=>t o i v H2 λH3=>Q σ H3
theorem ZuR{o i:Expr}{to ti:TE}{t:Sd}(ho:PE X o to)(hi:PE X i ti)(hs:Zya X t)(ha:∀v,jK (.Subscript o i pos) X.env v=(do
   let ov ←vU [v] (aM o X.env)
   let iv ←vU [v,ov] (aM i X.env)
   Fv pos
   vU [v,ov,iv] (setItem ov iv v)
   release [v,ov,iv] []):=by intro _;rfl):PG X (.Subscript o i pos) (Zzq to ti t):=by
 intro pins s σ H v u Q I r h;rw[ha];refine Yg (iD (aJ (ho pins s σ H _ I h) λov s1 ak=>?_));obtain⟨x,H1,I1,r1,q1⟩:=ak;refine Yg (iD (aJ (hi pins s1 σ H1 _ I1 q1) λiv s2 ak=>?_));obtain⟨y,H2,I2,r2,q2⟩:=ak;refine Yg (vP (Yg (iD (aJ (hs pins s2 σ H2 x y v ov iv u _ I2 r1 r2 r q2) λ_ s3 ak=>?_))));obtain⟨H3,I3,q3⟩:=ak;exact wpAny_release ⟨σ,H3,I3,q3⟩
def Zxs(te:TE)(g:TG):TS:=λD σ H=>te σ H λx H1=>g x σ H1 D.nx
theorem Zrt{e:Expr}{te:TE}{g:TG}(he:PE X e te)(hg:PG X tg g)(hs:autoParam (QB [tg] e pos.line X.env=pure false) qA)(hw:autoParam (QC [tg] e X.env=pure Ym) qA)(h1:autoParam ((jJ [tg] X.env).map (·.2)=[jK tg X.env]) qA):PS X (.Assign [tg] e pos) (Zxs te g):=by intro pins s σ H D I h;refine wpAny_Assign_stores (aJ (he pins s σ H _ I h) λv s1 ak=>?_) hs hw;obtain⟨x,H1,I1,r1,q1⟩:=ak;rw[h1];exact aJ (hg pins s1 σ H1 x v _ I1 r1 q1) λ_ s2 q=>q
theorem ZwD{i:Nat}{x:aj}{e:Expr}{te:TE}{pos':aZ}(hN:X.N.Nodup)(hi:X.N[i]?=Ya x)(hx:Loc X.env.scope x)(he:PE X e te)(hs:autoParam (vR e (Ya (.Name x pos')) pos.line X.env=pure false) qA)(hf:X.fn x=true\/X.env.scope.names.lookup x=Ya .local:=by first|exact .inl rfl|exact .inr rfl|assumption):
  PS X (.Assign [.Name x pos'] e pos) (Zxs te (Zus i)):=by
 intro pins s σ H D I h;refine wpAny_Assign_Name (aJ (he pins s σ H _ I h) λv s1 ak=>?_) hs;obtain⟨y,H1,I1,r1,q1⟩:=ak;exact Zm0 I1 hN hi hx r1 (λs2 I2=>⟨_,H1,I2,q1⟩) hf
end
section
variable {X:Cx} {pos:aZ}
def Zvw(c:TT)(tb:TS):TS:=λD σ H=>∃W:Nat->St->Hp->Prop,(∃m,W m σ H)/\∀m σ H,W m σ H ->
 c σ H λb H1=>if b=true then∃N:St->Hp->Prop,(∀σ' H',N σ' H'->∃m',m'<m/\W m' σ' H')/\tb {D with nx:=N,ct:=N,bk:=D.nx} σ H1 else D.nx σ H1
theorem Zsx{c:Expr}{body:List Yep}{tc:TT}{tb:TS}(hp:PassesOwn (aB X.prog X.w) X.A X.env X.xe)(hc:PT X c tc)(hb:kZ X body tb):PS X (.While c body [] pos) (Zvw tc tb):=by
 intro pins s σ H D I h;obtain⟨W,⟨m0,w0⟩,turn⟩:=h;refine wpAny_While (codeAny_whileLoop (λn s'=>∃σ' H',Inv X pins σ' H' s'/\W n σ' H') ?_ m0 ⟨σ,H,I,w0⟩);rintro n s1 ⟨σ1,H1,I1,w1⟩;refine xX hp (aJ (hc pins s1 σ1 H1 _ I1 (turn n σ1 H1 w1)) λb s2 ak=>?_);obtain⟨H2,I2,q2⟩:=ak;cases b with
 | true=>
  obtain⟨N,hN,q2⟩:=q2;rw[if_pos rfl];refine xX hp (aJ (hb pins s2 σ1 H2 _ I2 q2) λf s3 q3=>?_);cases f with
  |next=>obtain⟨σ3,H3,I3,n3⟩:=q3;obtain⟨m',hm,w3⟩:=hN σ3 H3 n3;exact⟨m',hm,σ3,H3,I3,w3⟩|cont=>obtain⟨σ3,H3,I3,n3⟩:=q3;obtain⟨m',hm,w3⟩:=hN σ3 H3 n3;exact⟨m',hm,σ3,H3,I3,w3⟩|brk=>exact q3|ret v=>exact q3
 |false=>rw[if_neg mJ];exact Jy ⟨σ1,H2,I2,q2⟩
end
structure It where
 go:Nat->Hp->Prop
 Ky:Nat->Hp->V->Hp->Prop
 stop:Nat->Hp->Prop
def iU(X:Cx)(pins:List (Y4×aP))(H:Hp)(b:Y4):Prop:=H b=Ym/\b≠X.env.locals/\b∉X.fs/\(b∈X.ex\/X.s₀.heap.objs.size<=b)/\(∀x c,X.env.cells.lookup x=Ya c->c≠b)/\∀p∈X.pn++pins,p.1≠b
theorem Inv.vB{X:Cx}{pins:List (Y4×aP)}{σ:St}{H H':Hp}{s:Yl}{b:Y4}(I:Inv X pins σ H s)(hb:s.heap.objs.size<=b)(hn:H' b=Ym):iU X pins H' b:=by
 refine⟨hn,Fz (Y8 I.lt hb),I.AbA hb,.inr (Yi I.sz hb),λx c e z=>?_,λp hp z=>?_⟩
 .obtain⟨v,q⟩:=I.cell x c e;exact absurd (Y8 q.lt (by rw[z];exact hb)) (v6 _)
 .exact absurd (Y8 (Y7 (I.pin p hp).1) (by rw[z];exact hb)) (v6 _)
structure Turn(P:bR)(w:bJ)(K:Yb)(tg:Expr)(J:It)(fp:List Y4)(it:Y4)(tn:Nat->aR->Prop):Prop where
 mem:it∈fp
 obj:∀i h,tn i h->∀b∈fp,∃o,h.get? b=Ya o/\∀v,o.data≠ .cell v
 keep:∀i h h',tn i h->(∀b∈fp,∀o,h.get? b=Ya o->h'.get? b=Ya o)->tn i h'
 item:∀(X:Cx),X.prog=P->X.w=w->X.K=K->X.calm=true->∀(i:Nat) (pins:List (Y4×aP)) (s:Yl) (σ:St) (H:Hp) (E:Yh->Yl->Prop),Inv X pins σ H s->(∀b∈fp,iU X pins H b)->tn i s.heap->J.go i H ->
  ao (aB P w) X.A (ul (.ref it)) (λr s1=>∃u,r=Ya u/\
   ao (aB P w) X.A (Fj tg (.ref it) u) (λ_ s2=>∃x H',Inv X pins σ H' s2/\RelV x u/\J.Ky i H x H'/\tn (i+1) s2.heap/\∀b∈fp,H' b=Ym) E s1) E s
 done:∀(X:Cx),X.prog=P->X.w=w->X.K=K->X.calm=true->∀(i:Nat) (pins:List (Y4×aP)) (s:Yl) (σ:St) (H:Hp) (E:Yh->Yl->Prop),Inv X pins σ H s->(∀b∈fp,iU X pins H b)->tn i s.heap->J.stop i H ->
  ao (aB P w) X.A (ul (.ref it)) (λr s1=>r=Ym/\Inv X pins σ H s1) E s
 self:∀(A:bW) (i:Nat) (s:Yl) (Q:Yh->Yl->Prop) (E:Yh->Yl->Prop),tn i s.heap->Q (.ref it) s->ao (aB P w) A (Av (.ref it)) Q E s
noncomputable abbrev TI:=St->Hp->(It->Hp->Prop)->Prop
def PIE(X:Cx)(pins:List (Y4×aP))(σ:St)(tg:Expr)(R:It->Hp->Prop)(itv:Yh)(s2:Yl):Prop:=∃(it:Y4) (fp:List Y4) (tn:Nat->aR->Prop) (J:It) (H':Hp),itv= .ref it/\Inv X pins σ H' s2/\Turn X.prog X.w X.K tg J fp it tn/\tn 0 s2.heap/\(∀b∈fp,iU X pins H' b)/\R J H'
def PI(X:Cx)(tg iter:Expr)(wi:TI):Prop:=
 ∀(pins:List (Y4×aP)) (s:Yl) (σ:St) (H:Hp) (R:It->Hp->Prop),Inv X pins σ H s->wi σ H R ->
  ao (aB X.prog X.w) X.A (aM iter X.env) (λv s1=>ao (aB X.prog X.w) X.A (Av v) (PIE X pins σ tg R) X.xe s1) X.xe s
theorem Kz{M:Model}{A:bW}{E:Yh->Yl->Prop}{s:Yl}{it:Y4}{u:Yh}{o:aP}{n:String}{vs:Array Yh}{Q:Unit->Yl->Prop}(ho:s.heap.get? it=Ya o)(hc:o.cls= .type n)(hd:o.data= .fields vs)(hn:["enumerate","zip","dict_itemiterator","dict_reverseitemiterator","odict_iterator","itertools.zip_longest","itertools.pairwise"].contains n=false)(hQ:Q () s):ao M A (Fj tg (.ref it) u) Q E s:=by
 unfold Fj;cases tg<;>first
  |exact Yv hQ
  | (cases u<;>first
    |exact Yv hQ
    | (refine Yg (wpAny_load ho ?_)
       rw[hc,hd];show ao M A (if(["enumerate","zip","dict_itemiterator","dict_reverseitemiterator","odict_iterator","itertools.zip_longest","itertools.pairwise"].contains n&&vs[0]?==Ya (vY _))=true then _ else _) Q E s;rw[if_neg (by intro h;rw[hn,Q6]at h;cases h)];exact Yv hQ))
noncomputable def Itl(K:Yb)(a:Y4):It:=⟨λi H=>∃xs x,bM K H a xs/\xs[i]?=Ya x,λi H x H'=>H'=H/\∀xs,bM K H a xs->xs[i]?=Ya x,λi H=>∃xs,bM K H a xs/\xs.length<=i⟩
noncomputable def Itt(K:Yb)(a:Y4):It:=⟨λi H=>∃xs x,cW K H a xs/\xs[i]?=Ya x,λi H x H'=>H'=H/\∀xs,cW K H a xs->xs[i]?=Ya x,λi H=>∃xs,cW K H a xs/\xs.length<=i⟩
noncomputable def KC(lo:Int)(n:Nat):It:=⟨λi _=>i<n,λi H x H'=>H'=H/\x= .int (lo+i),λi _=>n<=i⟩
theorem Zp6{P:bR}{w:bJ}(a it:Y4):Turn P w K tg (Itl K a) [it] it (λi h=>h.IsListIter it a i)where
 mem:=by simp
 obj:=λi h st b hb=>by
  have e:b=it:=by simpa using hb
  subst e;obtain⟨o,e,c,d⟩:=st;exact⟨o,e,λv z=>by rw[d]at z;cases z⟩
 keep:=λi h h' st k=>st.at λo e=>k it (by simp) o e
 item:=by intro X hP hw hK hc i pins s σ H E I hf st hg;subst hP hw hK;obtain⟨xs,x,hq,hx⟩:=hg;obtain⟨its,rv,p,hz⟩:=I.list hq;obtain⟨u,hu,ru⟩:=rv.get hx;obtain⟨f0,f1,f2,f3,f4,f5⟩:=hf it (by simp);refine Yhw st p.isList (x:=u) (by simpa using hu) λh' st' sb=>?_;have I1:Inv X pins σ H {s with heap:=h'}:=I.turned (t':=s.toks) (λb o hb e=>(sb.2 b hb).trans e) f0 f1 f3 f4 f5;obtain⟨o,e,c,d⟩:=id st';exact⟨u,rfl,Kz (s:={s with heap:=h'}) e c d (by decide) ⟨x,H,I1,ru,⟨rfl,λys hy=>by rw[I.O8 hy hq];exact hx⟩,st',λb hb=>(hf b hb).1⟩⟩
 done:=by intro X hP hw hK hc i pins s σ H E I hf st hg;subst hP hw hK;obtain⟨xs,hq,hx⟩:=hg;obtain⟨its,rv,p,hz⟩:=I.list hq;obtain⟨f0,f1,f2,f3,f4,f5⟩:=hf it (by simp);have hl:=rv.length;exact Yid (I.ok.hd hc) st p.isList (by simp;exact lC 2 2268279672881 T1 hl hx) λh' eb=>⟨rfl,I.turned (t':=s.toks) (λb o hb e=>eb b o hb e) f0 f1 f3 f4 f5⟩
 self:=λ_ _ _ _ _ st h=>wpAny_pyIter_listiter st h
theorem Zoj{P:bR}{w:bJ}(a it:Y4):Turn P w K tg (Itt K a) [it] it (λi h=>h.IsTupleIter it a i)where
 mem:=by simp
 obj:=λi h st b hb=>by
  have e:b=it:=by simpa using hb
  subst e;obtain⟨o,e,c,d⟩:=st;exact⟨o,e,λv z=>by rw[d]at z;cases z⟩
 keep:=λi h h' st k=>st.at λo e=>k it (by simp) o e
 item:=by intro X hP hw hK hc i pins s σ H E I hf st hg;subst hP hw hK;obtain⟨xs,x,hq,hx⟩:=hg;obtain⟨its,rv,p,hz⟩:=I.tuple hq;obtain⟨u,hu,ru⟩:=rv.get hx;obtain⟨f0,f1,f2,f3,f4,f5⟩:=hf it (by simp);refine wpAny_pyNext_tuple_item st (show s.heap.IsTuple a its.toArray from p) (x:=u) (by simpa using hu) λh' st' sb=>?_;have I1:Inv X pins σ H {s with heap:=h'}:=I.turned (t':=s.toks) (λb o hb e=>(sb.2 b hb).trans e) f0 f1 f3 f4 f5;obtain⟨o,e,c,d⟩:=id st';exact⟨u,rfl,Kz (s:={s with heap:=h'}) e c d (by decide) ⟨x,H,I1,ru,⟨rfl,λys hy=>by rw[I.O7 hy hq];exact hx⟩,st',λb hb=>(hf b hb).1⟩⟩
 done:=by intro X hP hw hK hc i pins s σ H E I hf st hg;subst hP hw hK;obtain⟨xs,hq,hx⟩:=hg;obtain⟨its,rv,p,hz⟩:=I.tuple hq;obtain⟨f0,f1,f2,f3,f4,f5⟩:=hf it (by simp);have hl:=rv.length;exact wpAny_pyNext_tuple_end (I.ok.hd hc) st (show s.heap.IsTuple a its.toArray from p) (by simp;exact lC 2 2268279672881 T1 hl hx) λh' eb=>⟨rfl,I.turned (t':=s.toks) (λb o hb e=>eb b o hb e) f0 f1 f3 f4 f5⟩
 self:=λ_ _ _ _ _ st h=>wpAny_pyIter_tupleiter st h
theorem ZnT{P:bR}{w:bJ}(it:Y4)(lo:Int)(n:Nat):Turn P w K tg (KC lo n) [it] it (λi h=>IsRangeIter h it (lo+(i:Nat)*1) ((n:Int)-(i:Nat)) 1)where
 mem:=by simp
 obj:=λi h st b hb=>by
  have e:b=it:=by simpa using hb
  subst e;exact⟨_,st,λv z=>by have z':Data.fields _=Data.cell v:=z;cases z'⟩
 keep:=λi h h' st k=>k it (by simp) _ st
 item:=by intro X hP hw hK hc i pins s σ H E I hf st hg;subst hP hw hK;obtain⟨f0,f1,f2,f3,f4,f5⟩:=hf it (by simp);have W:=Walks.range (prog:=X.prog) (w:=X.w) (I.ok.hd hc) it lo 1 n;refine W.item i s _ _ hg st λv h' tk hv st' kk=>?_;obtain⟨t,rfl⟩:=hv;have I1:Inv X pins σ H {s with heap:=h',toks:=tk}:=I.turned (λb o hb e=>kk b o (by simpa using hb) e) f0 f1 f3 f4 f5;refine⟨_,rfl,Kz (s:={s with heap:=h',toks:=tk}) (n:="range_iterator") st' rfl rfl (by decide) ⟨.int (lo+i),H,I1,⟨t,?_⟩,⟨rfl,rfl⟩,st',λb hb=>(hf b hb).1⟩⟩;rw[Int.mul_one]
 done:=by intro X hP hw hK hc i pins s σ H E I hf st hg;subst hP hw hK;obtain⟨f0,f1,f2,f3,f4,f5⟩:=hf it (by simp);exact wpAny_pyNext_range_end (I.ok.hd hc) st (by have:n<=i:=hg;exact iN [_,_] [] 1 0xe1808f81001 T1 this) λh' eb=>⟨rfl,I.turned (t':=s.toks) (λb o hb e=>eb b o hb e) f0 f1 f3 f4 f5⟩
 self:=λ_ _ _ _ _ st h=>wpAny_pyIter_rangeiter st h
end _L2
namespace _L2
open PySem PySem.Spec PyProof.Rows
variable{fp:List Y4}{pins:List (Y4×aP)}
section
variable {X:Cx} {tg:Expr}
def ZxP(K:Yb)(tl:TE):TI:=λσ H R=>tl σ H λx H1=>∃a,x= .ref a/\(∃xs,bM K H1 a xs)/\R (Itl K a) H1
def Zzz(K:Yb)(tl:TE):TI:=λσ H R=>tl σ H λx H1=>∃a,x= .ref a/\(∃xs,cW K H1 a xs)/\R (Itt K a) H1
theorem ZtH{l:Expr}{tl:TE}(hl:PE X l tl):PI X tg l (ZxP X.K tl):=by
 intro pins s σ H R I h;refine aJ (hl pins s σ H _ I h) λv s1 ak=>?_;obtain⟨x,H1,I1,r1,q1⟩:=ak;obtain⟨a,e,⟨xs,hq⟩,q⟩:=q1;subst e;cases r1;obtain⟨its,rv,p,hz⟩:=I1.list hq;refine vN p.isList ?_;refine⟨s1.heap.objs.size,[s1.heap.objs.size],_,_,H1,rfl,I1.kept (t':=s1.toks) λb o e=>Yn _ e,Zp6 a _,⟨_,Y5 _ rfl,rfl,rfl⟩,λb hb=>?_,q⟩;have e:b=s1.heap.objs.size:=by simpa using hb
 subst e;exact I1.vB (Yt _) (I1.hok.fresh (Yt _))
theorem ZvG{l:Expr}{tl:TE}(hl:PE X l tl):PI X tg l (Zzz X.K tl):=by
 intro pins s σ H R I h;refine aJ (hl pins s σ H _ I h) λv s1 ak=>?_;obtain⟨x,H1,I1,r1,q1⟩:=ak;obtain⟨a,e,⟨xs,hq⟩,q⟩:=q1;subst e;cases r1;obtain⟨its,rv,p,hz⟩:=I1.tuple hq;refine Jx (show s1.heap.IsTuple a its.toArray from p) ?_;refine⟨s1.heap.objs.size,[s1.heap.objs.size],_,_,H1,rfl,I1.kept (t':=s1.toks) λb o e=>Yn _ e,Zoj a _,⟨_,Y5 _ rfl,rfl,rfl⟩,λb hb=>?_,q⟩;have e:b=s1.heap.objs.size:=by simpa using hb
 subst e;exact I1.vB (Yt _) (I1.hok.fresh (Yt _))
theorem ZqH{σ:St}{H:Hp}{s:Yl}{R:It->Hp->Prop}{E:Yh->Yl->Prop}{lo hi:Int}{t u v:gw}{tk:Nat}(I:Inv X pins σ H s)(h1:-(2^62)<=lo)(h2:lo<2^62)(h3:-(2^62)<=hi)(h4:hi<2^62)(q:R (KC lo (hi-lo).toNat) H):ao (aB X.prog X.w) X.A (Av (.ref s.heap.objs.size)) (PIE X pins σ tg R) E {s with heap:=s.heap.push {cls:=.type "range",data:=.fields #[.int lo t,.int hi u,.int 1 v]},toks:=tk}:=by
 refine wpAny_pyIter_range (IsRange.new ..) (small_one h1 h2 h3 h4) ?_;have I1:Inv X pins σ H {s with heap:=s.heap.push {cls:=.type "range",data:=.fields #[.int lo t,.int hi u,.int 1 v]},toks:=tk}:=I.kept λb o e=>Yn _ e;refine⟨(s.heap.push {cls:=.type "range",data:=.fields #[.int lo t,.int hi u,.int 1 v]}).objs.size,[(s.heap.push {cls:=.type "range",data:=.fields #[.int lo t,.int hi u,.int 1 v]}).objs.size],_,_,H,rfl,
  I1.kept (t':=tk) λb o e=>Yn _ e,ZnT _ lo (hi-lo).toNat,?_,λb hb=>?_,q⟩
 .have e1:lo+((0:Nat):Int)*1=lo:=by simp
  have e2:(((hi-lo).toNat:Nat):Int)-((0:Nat):Int)=Builtin.Range.rangeSize lo hi 1:=by rw[rangeSize_one];split <;>omega
  show IsRangeIter _ _ (lo+((0:Nat):Int)*1) ((((hi-lo).toNat:Nat):Int)-((0:Nat):Int)) 1;rw[e1,e2];exact Y5 _ rfl
 .have e:b=(s.heap.push {cls:=.type "range",data:=.fields #[.int lo t,.int hi u,.int 1 v]}).objs.size:=by simpa using hb
  subst e;exact I1.vB (Yt _) (I1.hok.fresh (Yt _))
def Zxn(ta:TA):TI:=λσ H R=>ta σ H λvs H1=>∃j:Int,vs=[.int j]/\ -(2^62)<=j/\j<2^62/\R (KC 0 j.toNat) H1
theorem Zqt{a:Expr}{ta:TA}{p pos:aZ}(hg:Gl X "range")(hm:X.mg "range" =Ym)(ha:PA X [a] ta)(hs:autoParam (Yz [a] X.env=[(false,aM a X.env)]) qA):PI X tg (.Call (.Name "range" p) [a] [] pos) (Zxn ta):=by
 intro pins s σ H R I h;refine Call_ (yw I hg hm boot_range (Rc (aJ (ha pos pins s σ H _ I h) λus s1 ak=>?_) hs rfl));obtain⟨vs,H1,I1,r1,q1⟩:=ak;obtain⟨j,e,q1,q2,q⟩:=q1;subst e;cases r1 with
 |cons r rr=>
  cases rr
  obtain⟨t,rfl⟩:=r;exact call_range_1 (ZqH I1 (by omega) (by omega) q1 q2 (by simpa using q))
def Zzp(wi:TI)(g:TG)(tb:TS):TS:=λD σ H=>wi σ H λJ H1=>∃W:Nat->Nat->St->Hp->Prop,(∃m,W 0 m σ H1)/\∀i m σ H,W i m σ H ->
 (J.stop i H/\D.nx σ H)\/(J.go i H/\∃N:St->Hp->Prop,(∀σ' H',N σ' H'->∃m',m'<m/\W (i+1) m' σ' H')/\∀x H',J.Ky i H x H'->g x σ H' λσ2 H2=>tb {D with nx:=N,ct:=N,bk:=D.nx} σ2 H2)
noncomputable def uz(fp:List Y4)(h:aR):List (Y4×aP):=fp.filterMap λb=>(h.get? b).map λo=>(b,o)
theorem Bp{h:aR}{b:Y4}{o:aP}(hb:b∈fp)(e:h.get? b=Ya o):(b,o)∈uz fp h:=Qi.mpr ⟨b,hb,by rw[e];rfl⟩
theorem Zp3{h:aR}{p:Y4×aP}(hp:p∈uz fp h):p.1∈fp/\h.get? p.1=Ya p.2:=by
 obtain⟨b,hb,e⟩:=Qi.mp hp;cases q:h.get? b with
 |none=>rw[q]at e;cases e|some o=>rw[q]at e;have e':(b,o)=p:=Y2 e;subst e';exact⟨hb,q⟩
theorem Inv.pinned{σ:St}{H:Hp}{s:Yl}(I:Inv X pins σ H s)(hf:∀b∈fp,iU X pins H b)(ho:∀b∈fp,∃o,s.heap.get? b=Ya o/\∀v,o.data≠ .cell v):Inv X (pins++uz fp s.heap) σ H s:=I.Xu λp hp=>(fj.mp hp).elim (λz=>I.pin p (iQ _ z)) λz=>by obtain⟨hb,e⟩:=Zp3 z;obtain⟨f0,f1,f2,_⟩:=hf p.1 hb;obtain⟨o,e',d⟩:=ho p.1 hb;rw[e]at e';cases e';exact⟨e,f0,f1,f2,d⟩
theorem Inv.Ep{pl:List (Y4×aP)}{σ:St}{H:Hp}{s:Yl}(I:Inv X (pins++pl) σ H s):Inv X pins σ H s:=I.Xu λp hp=>I.pin p (iQ _ (vI _ hp))
theorem ZvY{iter:Expr}{body:List Yep}{wi:TI}{g:TG}{tb:TS}{pos:aZ}(hp:PassesOwn (aB X.prog X.w) X.A X.env X.xe)(hc:X.calm=true)(hi:PI X tg iter wi)(hg:PG X tg g)(hb:kZ X body tb)(hs:∀x,Al iter X.env x=pure x:=by intro _;rfl):PS X (.For tg iter body [] pos) (Zzp wi g tb):=by
 intro pins s σ H D I h;refine wpAny_For (aJ (hi pins s σ H _ I h) λv s1 h1=>aJ h1 λitv s2 h2=>?_) hs;obtain⟨it,fp,tn,J,H2,e,I2,T,st2,f2,W,⟨m0,w0⟩,turn⟩:=h2;subst e;have stat:∀{H':Hp},(∀b∈fp,H' b=Ym)->∀b∈fp,iU X pins H' b:=λhn b hb=>⟨hn b hb,(f2 b hb).2⟩;refine codeAny_forLoop_any (λn s'=>∃i σ' H',Inv X pins σ' H' s'/\tn i s'.heap/\(∀b∈fp,H' b=Ym)/\W i n σ' H') ?_ m0 ⟨0,σ,H2,I2,st2,λb hb=>(f2 b hb).1,w0⟩;rintro n s3 ⟨i,σ3,H3,I3,st3,KD,w3⟩;rcases turn i n σ3 H3 w3 with⟨stop,qn⟩|⟨go,N,hN,step⟩
 .refine xX hp (aJ (T.done X rfl rfl rfl hc i pins s3 σ3 H3 X.xe I3 (stat KD) st3 stop) λr s4 ⟨hr,I4⟩=>?_);subst hr;exact Jy ⟨σ3,H3,I4,qn⟩
 .refine xX hp (aJ (T.item X rfl rfl rfl hc i pins s3 σ3 H3 X.xe I3 (stat KD) st3 go) λr s4 ⟨u,hr,h4⟩=>?_);subst hr;refine xX hp (aJ h4 λ_ s5 ak=>?_);obtain⟨x,H5,I5,r5,y5,mL,pU⟩:=ak;have I5':=I5.pinned (stat pU) (T.obj _ _ mL);refine xX hp (aJ (hg _ s5 σ3 H5 x u _ I5' r5 (step x H5 y5)) λ_ s6 ak=>?_);obtain⟨σ6,H6,I6,q6⟩:=ak;refine xX hp (aJ (hb _ s6 σ6 H6 _ I6 q6) λf s7 q7=>?_);have again:∀{σ7:St} {H7:Hp},Inv X (pins++uz fp s5.heap) σ7 H7 s7->N σ7 H7->∃m,m<n/\∃i σ' H',Inv X pins σ' H' s7/\tn i s7.heap/\(∀b∈fp,H' b=Ym)/\W i m σ' H':=λ{σ7 H7} I7 n7=>by
   obtain⟨m',hm,w7⟩:=hN σ7 H7 n7;refine⟨m',hm,i+1,σ7,H7,I7.Ep,T.keep _ _ _ mL λb hb o e=>(I7.pin (b,o) (iQ _ (iQ _ (Bp hb e)))).1,λb hb=>?_,w7⟩;obtain⟨o,e,d⟩:=T.obj _ _ mL b hb;exact(I7.pin (b,o) (iQ _ (iQ _ (Bp hb e)))).2.1
  cases f with
  |next=>obtain⟨σ7,H7,I7,n7⟩:=q7;exact again I7 n7|cont=>obtain⟨σ7,H7,I7,n7⟩:=q7;exact again I7 n7|brk=>obtain⟨σ7,H7,I7,q7⟩:=q7;exact⟨σ7,H7,I7.Ep,q7⟩|ret v=>obtain⟨x7,σ7,H7,I7,r7,q7⟩:=q7;exact⟨x7,σ7,H7,I7.Ep,r7,q7⟩
end
end _L2
namespace _L2
open PySem PySem.Spec PyProof.Rows
noncomputable abbrev R2:=V->V->Hp->VK->Prop
def aO(X:Cx)(f:Yh->Yh->pN Yh)(r:R2):Prop:=
 ∀(pins:List (Y4×aP)) (s:Yl) (σ:St) (H:Hp) (x y:V) (v u:Yh) (Q:VK),Inv X pins σ H s->RelV x v->RelV y u->r x y H Q ->
  ao (aB X.prog X.w) X.A (f v u) (EP X pins σ Q) X.xe s
def uD(X:Cx)(f:Yh->pN Yh)(r:V->Hp->VK->Prop):Prop:=
 ∀(pins:List (Y4×aP)) (s:Yl) (σ:St) (H:Hp) (x:V) (v:Yh) (Q:VK),Inv X pins σ H s->RelV x v->r x H Q ->
  ao (aB X.prog X.w) X.A (f v) (EP X pins σ Q) X.xe s
def dB(X:Cx)(f:Yh)(r:List V->Hp->VK->Prop):Prop:=
 ∀(pins:List (Y4×aP)) (s:Yl) (σ:St) (H:Hp) (xs:List V) (us:List Yh) (Q:VK),Inv X pins σ H s->Vals xs us->r xs H Q ->
  ao (aB X.prog X.w) X.A (call f us) (EP X pins σ Q) X.xe s
def Bq(r:R2)(ta tb:TE):TE:=λσ H Q=>ta σ H λx H1=>tb σ H1 λy H2=>r x y H2 Q
def tUn(r:V->Hp->VK->Prop)(ta:TE):TE:=λσ H Q=>ta σ H λx H1=>r x H1 Q
def rI(C:Int->Int->Prop)(g:Int->Int->V):R2:=λx y H Q=>∃i j,x= .int i/\y= .int j/\C i j/\Q (g i j) H
def yC(g:Int->Int->V):R2:=λx y H Q=>∃i j,x= .int i/\y= .int j/\Q (g i j) H
noncomputable def rU(g:Int->V):V->Hp->VK->Prop:=λx H Q=>∃i,x= .int i/\Q (g i) H
variable{r:R2}{f:Yh->Yh->pN Yh}
section
variable {X:Cx} {a b c:Expr} {ta tb tc:TE} {pos:aZ}
theorem Sg(ha:PE X a ta)(hb:PE X b tb){pins:List (Y4×aP)}{s:Yl}{σ:St}{H:Hp}{R:V->V->Hp->Prop}(I:Inv X pins σ H s)(h:ta σ H λx H1=>tb σ H1 λy H2=>R x y H2){Q:Yh->Yl->Prop}(hf:∀v u s2 x y H2,Inv X pins σ H2 s2->RelV x v->RelV y u->R x y H2->ao (aB X.prog X.w) X.A (f v u) Q X.xe s2):
  ao (aB X.prog X.w) X.A (aM a X.env) (λv s₁=>ao (aB X.prog X.w) X.A (aM b X.env) (λu s₂=>ao (aB X.prog X.w) X.A (f v u) Q X.xe s₂) X.xe s₁) X.xe s:=by
 refine aJ (ha pins s σ H _ I h) λv s1 ak=>?_;obtain⟨x,H1,I1,r1,q1⟩:=ak;refine aJ (hb pins s1 σ H1 _ I1 q1) λu s2 ak=>?_;obtain⟨y,H2,I2,r2,q2⟩:=ak;exact hf v u s2 x y H2 I2 r1 r2 q2
theorem Zxf{op:Operator}(ho:aO X (jb op) r)(ha:PE X a ta)(hb:PE X b tb):PE X (.BinOp a op b pos) (Bq r ta tb):=by intro pins s σ H Q I h;exact wpAny_BinOp (Sg ha hb I h λv u s2 x y H2 I2 rx ry q=>ho pins s2 σ H2 x y v u Q I2 rx ry q)
theorem Zyf{op:UnaryOp}{r:V->Hp->VK->Prop}(ho:uD X (JM op) r)(ha:PE X a ta):PE X (.UnaryOp op a pos) (tUn r ta):=by intro pins s σ H Q I h;exact UnaryOp_ (aJ (ha pins s σ H _ I h) λv s1 ⟨x,H1,I1,r1,q1⟩=>ho pins s1 σ H1 x v Q I1 r1 q1)
theorem KH{C:Int->Int->Prop}{g:Int->Int->Int}(rule:∀(i j:Int) (t u:gw) (s:Yl) (Q:Yh->Yl->Prop) (E:Yh->Yl->Prop),C i j->Q (.int (g i j) s.toks) {s with toks:=s.toks+1}->ao (aB X.prog X.w) X.A (f (.int i t) (.int j u)) Q E s):
  aO X f (rI C λi j=>.int (g i j)):=by
 intro pins s σ H x y v u Q I rx ry h;obtain⟨i,j,rfl,rfl,hc,q⟩:=h;obtain⟨t,rfl⟩:=rx;obtain⟨t',rfl⟩:=ry;exact rule i j t t' s _ _ hc ⟨.int (g i j),H,I.tok _,⟨_,rfl⟩,q⟩
theorem ZxW{g:Int->Int->Int}(rule:∀(i j:Int) (t u:gw) (s:Yl) (Q:Yh->Yl->Prop) (E:Yh->Yl->Prop),Q (.int (g i j) s.toks) {s with toks:=s.toks+1}->ao (aB X.prog X.w) X.A (f (.int i t) (.int j u)) Q E s):
  aO X f (yC λi j=>.int (g i j)):=by
 intro pins s σ H x y v u Q I rx ry h;obtain⟨i,j,rfl,rfl,q⟩:=h;obtain⟨t,rfl⟩:=rx;obtain⟨t',rfl⟩:=ry;exact rule i j t t' s _ _ ⟨.int (g i j),H,I.tok _,⟨_,rfl⟩,q⟩
theorem Sq{g:Int->Int->Bool}(rule:∀(i j:Int) (t u:gw) (s:Yl) (Q:Yh->Yl->Prop) (E:Yh->Yl->Prop),Q (.bool (g i j)) s->ao (aB X.prog X.w) X.A (f (.int i t) (.int j u)) Q E s):
  aO X f (yC λi j=>.bl (g i j)):=by
 intro pins s σ H x y v u Q I rx ry h;obtain⟨i,j,rfl,rfl,q⟩:=h;obtain⟨t,rfl⟩:=rx;obtain⟨t',rfl⟩:=ry;exact rule i j t t' s _ _ ⟨.bl (g i j),H,I,rfl,q⟩
def Zy1(i j:Int):Prop:=0<j/\j<1073741824
def Zy8(i j:Int):Prop:=0<=j/\j<=1000000/\i.natAbs<2^64
def Ss(i j:Int):Prop:=(-(2^64)<i/\i<2^64)\/(-(2^64)<j/\j<2^64)
theorem Ss.ok{i j:Int}(h:Ss i j):IntMulOk i j:=by
 rcases h with⟨h1,h2⟩|⟨h1,h2⟩
 .exact .of_left (intBits_le_64 h1 h2)
 .exact .of_right (intBits_le_64 h1 h2)
theorem ZvX:aO X (jb .Add) (yC λi j=>.int (i+j)):=ZxW λ_ _ _ _ _ _ _ q=>add_int q
theorem Zu3:aO X (jb .Sub) (yC λi j=>.int (i-j)):=ZxW λ_ _ _ _ _ _ _ q=>sub_int q
theorem ZuZ:aO X (jb .Mult) (rI Ss λi j=>.int (i*j)):=KH λ_ _ _ _ _ _ _ hc q=>mul_int q hc.ok
theorem Zub:aO X (jb .FloorDiv) (rI Zy1 λi j=>.int (i / j)):=KH λi j _ _ _ _ _ hc q=>by have h1:(0:Int)<j:=hc.1;have h2:j<1073741824:=hc.2;exact floordiv_int (by exactλz=>iN [] [_] 2 26014245025 T1 z h1) (by rw[Int.fdiv_eq_ediv_of_nonneg i (by exact J1 h1)];exact q) (.inl (PyProof.noPylong_small (by omega)))
theorem Zvf:aO X (jb .Mod) (rI (λ_ j=>0<j) λi j=>.int (i % j)):=KH λi j _ _ _ _ _ hc q=>by have h1:(0:Int)<j:=hc;exact mod_int' (by exactλz=>iN [] [_] 2 26014245025 T1 z h1) (by rw[Int.fmod_eq_emod_of_nonneg i (by exact J1 h1)];exact q)
theorem Zwr:aO X (jb .Pow) (rI Zy8 λi j=>.int (i^j.toNat)):=KH λ_ _ _ _ _ _ _ hc q=>pow_int_small hc.1 hc.2.1 hc.2.2 q
theorem unI{f:Yh->pN Yh}{g:Int->Int}(rule:∀(i:Int) (t:gw) (s:Yl) (Q:Yh->Yl->Prop) (E:Yh->Yl->Prop),Q (.int (g i) s.toks) {s with toks:=s.toks+1}->ao (aB X.prog X.w) X.A (f (.int i t)) Q E s):
  uD X f (rU λi=>.int (g i)):=by
 intro pins s σ H x v Q I rx h;obtain⟨i,rfl,q⟩:=h;obtain⟨t,rfl⟩:=rx;exact rule i t s _ _ ⟨.int (g i),H,I.tok _,⟨_,rfl⟩,q⟩
theorem ZvC:uD X (JM .USub) (rU λi=>.int (-i)):=unI λ_ _ _ _ _ q=>neg_int q
end
theorem Su{i j:aj}:decide (V.str i=V.str j)=(i==j):=by rw[Q5];simp
section
variable {X:Cx} {a b c:Expr} {ta tb tc:TE} {pos:aZ}
theorem KJ{pins:List (Y4×aP)}{σ:St}{H:Hp}{s:Yl}{Q:VK}{k k':Bool}(I:Inv X pins σ H s)(q:Q (.bl k) H)(e:k=k'):EP X pins σ Q (.bool k') s:=by subst e;exact⟨.bl k,H,I,rfl,q⟩
theorem Zyg:aO X (d7 .Lt) (yC λi j=>.bl (decide (i<j))):=Sq λ_ _ _ _ _ _ _ q=>lt_int q
theorem Zxg:aO X (d7 .LtE) (yC λi j=>.bl (decide (i<=j))):=Sq λ_ _ _ _ _ _ _ q=>le_int q
theorem ZxH:aO X (d7 .Gt) (yC λi j=>.bl (decide (j<i))):=Sq λ_ _ _ _ _ _ _ q=>gt_int q
theorem ZpU:aO X (d7 .In) (λx y H Q=>∃i j,x= .str i/\y= .str j/\Q (.bl (!(Bg j i 0 j.length 1).isEmpty)) H):=by intro pins s σ H x y v u Q I rx ry h;obtain⟨i,j,rfl,rfl,q⟩:=h;obtain⟨t,rfl⟩:=rx;obtain⟨t',rfl⟩:=ry;exact in_str (KJ I q rfl)
theorem ZuT:aO X (d7 .Is) (λx y H Q=>y= .non/\Q (.bl (decide (x= .non))) H):=by
 intro pins s σ H x y v u Q I rx ry h;obtain⟨rfl,q⟩:=h;cases ry;refine is_none_gen (KJ I q ?_);cases x<;>first
  |(cases rx;rfl)
  |(obtain⟨t,rfl⟩:=rx;rfl)
theorem Ztt:aO X (d7 .IsNot) (λx y H Q=>y= .non/\Q (.bl (!decide (x= .non))) H):=by
 intro pins s σ H x y v u Q I rx ry h;obtain⟨rfl,q⟩:=h;cases ry;refine isnot_none_gen (KJ I q ?_);cases x<;>first
  |(cases rx;rfl)
  |(obtain⟨t,rfl⟩:=rx;rfl)
theorem Zl5:aO X (d7 .NotIn) (λx y H Q=>∃i j,x= .str i/\y= .str j/\Q (.bl (!(!(Bg j i 0 j.length 1).isEmpty))) H):=by intro pins s σ H x y v u Q I rx ry h;obtain⟨i,j,rfl,rfl,q⟩:=h;obtain⟨t,rfl⟩:=rx;obtain⟨t',rfl⟩:=ry;exact notIn_str (KJ I q rfl)
theorem aO.or{r':R2}(h:aO X f r)(h':aO X f r'):aO X f (λx y H Q=>r x y H Q\/r' x y H Q):=by
 intro pins s σ H x y v u Q I rx ry q;rcases q with q|q
 .exact h pins s σ H x y v u Q I rx ry q
 .exact h' pins s σ H x y v u Q I rx ry q
theorem Zpo{op:CmpOp}(ho:aO X (d7 op) r)(ha:PE X a ta)(hb:PE X b tb)(hm:xZ op b=false):PE X (.Compare a [op] [b] pos) (Bq r ta tb):=by intro pins s σ H Q I h;exact wpAny_Compare1 (Sg ha hb I h λv u s2 x y H2 I2 rx ry q=>ho pins s2 σ H2 x y v u Q I2 rx ry q) hm
def ZuA(t:TE):TT:=λσ H Q=>t σ H λx H'=>∃k,x= .bl k/\Q k H'
theorem Sv{op:CmpOp}(ho:aO X (d7 op) r)(ha:PE X a ta)(hb:PE X b tb)(hm:xZ op b=false):PT X (.Compare a [op] [b] pos) (ZuA (Bq r ta tb)):=by intro pins s σ H Q I h;refine wpAny_isTrue_Compare1 (aJ (ha pins s σ H _ I h) λv s1 ⟨x,H1,I1,r1,q1⟩=>aJ (hb pins s1 σ H1 _ I1 q1) λu s2 ⟨y,H2,I2,r2,q2⟩=>aJ (ho pins s2 σ H2 x y v u _ I2 r1 r2 q2) λc s3 ⟨z,H3,I3,r3,k,e,q3⟩=>?_) hm;subst e;cases r3;exact qF ⟨H3,I3,q3⟩
def Zvj(r r':R2)(ta tb tc:TE):TE:=λσ H Q=>ta σ H λx H1=>tb σ H1 λy H2=>r x y H2 λz H3=>∃k,z= .bl k/\
 (if k=true then tc σ H3 λw' H4=>r' y w' H4 Q else Q (.bl false) H3)
theorem Zsb{op op':CmpOp}{r':R2}(ho:aO X (d7 op) r)(ho':aO X (d7 op') r')(ha:PE X a ta)(hb:PE X b tb)(hc:PE X c tc)(hm:lastMarks [op,op'] [b,c]=false:=by with_unfolding_all rfl):PT X (.Compare a [op,op'] [b,c] pos) (ZuA (Zvj r r' ta tb tc)):=by
 intro pins s σ H Q I h;refine isTrue_chain (aJ (ha pins s σ H _ I h) λv s1 ⟨x,H1,I1,r1,q1⟩=>test_link (aJ (hb pins s1 σ H1 _ I1 q1) λu s2 ⟨y,H2,I2,r2,q2⟩=>aJ (ho pins s2 σ H2 x y v u _ I2 r1 r2 q2) λd s3 ⟨z,H3,I3,r3,k,e,q3⟩=>?_)) hm;subst e;cases r3;refine qF ?_;cases k with
 |false=>obtain⟨k',e',q'⟩:=q3;cases e';exact ite_ff ⟨H3,I3,q'⟩|true=>refine ite_tt (test_last (aJ (hc pins s3 σ H3 _ I3 q3) λw' s4 ⟨z',H4,I4,r4,q4⟩=>aJ (ho' pins s4 σ H4 y z' u w' _ I4 r2 r4 q4) λd' s5 ak=>?_));obtain⟨z2,H5,I5,r5,k2,e2,q5⟩:=ak;subst e2;cases r5;exact qF ⟨H5,I5,q5⟩
theorem Gk:(bG:Nat)<2^63:=by rw[Ao];decide
theorem ZnK:aO X (jb .Add) (λx y H Q=>∃i j,x= .str i/\y= .str j/\i.length+j.length<=bG/\Q (.str (i++j)) H):=by intro pins s σ H x y v u Q I rx ry h;obtain⟨i,j,rfl,rfl,hz,q⟩:=h;obtain⟨t,rfl⟩:=rx;obtain⟨t',rfl⟩:=ry;exact add_str (λt' tk=>⟨.str (i++j),H,I.tok _,⟨_,rfl⟩,q⟩) hz
theorem vals1{x:V}{us:List Yh}(r:Vals [x] us):∃u,us=[u]/\RelV x u:=by
 cases r with
 |cons r1 r2=>cases r2;exact⟨_,rfl,r1⟩
theorem vals2{x y:V}{us:List Yh}(r:Vals [x,y] us):∃u w',us=[u,w']/\RelV x u/\RelV y w':=by
 cases r with
 |cons r1 r2=>
  cases r2 with
  |cons r3 r4=>cases r4;exact⟨_,_,rfl,r1,r3⟩
theorem Zqa:dB X (.type "int") (λxs H Q=>(∃i,xs=[.int i]/\Q (.int i) H)\/∃k,xs=[.bl k]/\Q (.int (if k then 1 else 0)) H):=by
 intro pins s σ H xs us Q I r h;rcases h with⟨i,rfl,q⟩|⟨k,rfl,q⟩
 .obtain⟨u,rfl,t,rfl⟩:=vals1 r;exact call_int_int ⟨.int i,H,I,⟨_,rfl⟩,q⟩
 .obtain⟨u,rfl,r1⟩:=vals1 r;cases r1;exact call_int_bool ⟨.int (if k then 1 else 0),H,I.tok _,⟨_,rfl⟩,q⟩
theorem ZlX:dB X (.type "str") (λxs H Q=>∃i,xs=[.int i]/\i.natAbs.log2<1920/\Q (.str (FZ i)) H):=by intro pins s σ H xs us Q I r h;obtain⟨i,rfl,hz,q⟩:=h;obtain⟨u,rfl,t,rfl⟩:=vals1 r;exact PySem.P.str_of_int hz ⟨.str _,H,I.tok _,⟨_,rfl⟩,q⟩
def Zy2(K:Yb)(x:V)(H:Hp)(n:Nat):Prop:=
 match x with
 | .str y=>y.length<=bG/\n=y.length|.Bm y=>y.size<=bG/\n=y.size|.ref p=>(∃xs,bM K H p xs/\n=xs.length)\/∃xs,cW K H p xs/\n=xs.length|_=>False
theorem Zse:dB X (.builtin "len") (λxs H Q=>∃x n,xs=[x]/\Zy2 X.K x H n/\Q (.int n) H):=by
 intro pins s σ H xs us Q I r h;obtain⟨x,n,rfl,e,q⟩:=h;obtain⟨u,rfl,rx⟩:=vals1 r;have hl:=Gk;have hs:bG=16777216:=Ao;cases x with
 |str y=>obtain⟨t,rfl⟩:=rx;obtain⟨hy,e'⟩:y.length<=bG/\n=y.length:=e;subst e';exact len_str (by omega) ⟨.int _,H,I.tok _,⟨_,rfl⟩,q⟩|Bm y=>obtain⟨t,rfl⟩:=rx;obtain⟨hy,e'⟩:y.size<=bG/\n=y.size:=e;subst e';exact PySem.W.len_bytes (by omega) ⟨.int _,H,I.tok _,⟨_,rfl⟩,q⟩|ref p=>
  cases rx
  have e':(∃xs,bM X.K H p xs/\n=xs.length)\/∃xs,cW X.K H p xs/\n=xs.length:=e;rcases e' with⟨xs,hx,e'⟩|⟨xs,hx,e'⟩
  .subst e';obtain⟨its,r',pl,hz⟩:=I.list hx;have hlen:=r'.length;exact Calls.call_len_list pl.isList (by simp only[Yq];omega) ⟨.int xs.length,H,I.tok _,⟨_,by simp only[Yq];rw[hlen]⟩,q⟩
  .subst e';obtain⟨its,r',pl,hz⟩:=I.tuple hx;have hlen:=r'.length;exact len_tuple pl (by simp only[Yq];omega) ⟨.int xs.length,H,I.tok _,⟨_,by simp only[Yq];rw[hlen]⟩,q⟩
 |_=>exact(show False from e).elim
end
end _L2
namespace _L2
open PySem PySem.Spec PyProof.Rows
structure Br(h:aR)(x dx C:Y4)(mA:aj->Option Yh):Prop where
 obj:h.get? x=Ya (vH C dx)
 ns:h.Ns1 dx mA
 ne:dx≠x
theorem Zqe{h:aR}{dx:Y4}{mA:aj->Option Yh}(n:h.Ns1 dx mA):∃od,h.get? dx=Ya od/\∀name,Qf name od=Ya (mA name):=by
 obtain⟨o,es,ep,ho,hd,hk,_,hm⟩:=n;refine⟨o,ho,λname=>?_⟩;have e:=hm name;unfold nsFind findBy at e;rw[←Array.find?_toList]at e;unfold Qf;rw[hd];dsimp only;split
 .rename_i y q;rw[q]at e;exact congrArg Ya e
 .rename_i q;rw[q]at e;have a:es.toList.any (·.refKey)=false:=by
   rw[List.any_eq_false];intro y hy;obtain⟨z,t,hkey⟩:=hk y (Array.mem_toList_iff.mp hy);simp[DictEntry.refKey,hkey]
  have a':¬es.toList.any (·.refKey)=true:=by rw[a];exact mJ
  rw[if_neg a'];exact congrArg Ya e
theorem Br.look{h:aR}{x dx C:Y4}{mA:aj->Option Yh}(I:Br h x dx C mA):∃od,PySem.W.InstAt h x (vH C dx) C (Ya od)/\∀name,Qf name od=Ya (mA name):=
 let⟨od,ho,hl⟩:=Zqe I.ns
 ⟨od,⟨I.obj,rfl,rfl,ho⟩,hl⟩
variable{Q:Yh->Yl->Prop}
section
variable {prog:bR} {w:bJ} {A:bW} {E:Yh->Yl->Prop} {s:Yl} {K:Yb} {x dx C f:Y4} {mA:aj->Option Yh} {name:aj} {v:Yh}
theorem Ztd{expr:Bool}(X:K.In s.heap)(I:Br s.heap x dx C mA)(hg:Jg K C name=true)(hh:Jf K C=true)(ha:nJ K (.ref C) name=Ya Ym)(hv:mA name=Ya v)(hv':Z0 v=true)(h:Q v {s with toks:=s.toks+1}):
  ao (aB prog w) A (getAttr (.ref x) name expr) Q E s:=by
 obtain⟨od,J,hl⟩:=I.look;exact PySem.W.get_value X J (PySem.W.plainGet_of hg).1 (PySem.W.findObj_own hh ha rfl (by rw[hl,hv])) hv' h
theorem ZtP{ns:List aj}{Q:Unit->Yl->Prop}(X:K.In s.heap)(I:Br s.heap x dx C mA)(hs:nJ K (.ref C) "__setattr__" =Ya (Ya (.builtin "object.__setattr__")))(hp:Qa K C=true)(ht:Qe K C name=Ya Ym)(hh:Jf K C=true)(hw:QF mA ns)(hsz:ns.length<=bG)(h:∀h',Br h' x dx C (λy=>if y=name then Ya v else mA y)->A_ dx s.heap h'->Q () {s with heap:=h',toks:=s.toks+2}):
  ao (aB prog w) A (setAttr (.ref x) name v) Q E s:=by
 obtain⟨od,J,hl⟩:=I.look;refine PySem.W.set_plain X J hs (PySem.W.osa_open (s:={s with toks:=s.toks+1}) (r:=Ym) X J hp ht λb=>?_);obtain⟨cd,hc,hd'⟩:=PySem.W.any_some hh;have hx:s.heap.get? x=Ya ⟨.ref C,Ya dx,.plain,#[]⟩:=I.obj;refine Yg (Yv (Yg (Yg (wpAny_loadPart hx (Yg (PySem.W.Looks.here (s:={s with toks:=s.toks+1}) (PySem.W.looks_clsIn X hc) ?_))))));rw[hd'];refine Yv (a:=Ya dx) (Yg (Yv (Yg ?_)));refine wpAny_nsSet1 (s:={s with toks:=s.toks+1}) I.ns λh' hn2 hs2=>?_;obtain⟨oD,esD,epD,hoD,hdD,hcD⟩:=hn2.count (PySem.Within.cons name v hw);refine Yg (wpAny_lookBehind hoD (by rw[hdD];exact pastItsLine_dict (Yi hcD (by rw[Yk];exact lB 1 0xa1ca0c01001 T1 hsz))) ?_);exact Yv (h _ ⟨(hs2.2 _ (dw I.ne)).trans I.obj,hn2,I.ne⟩ hs2)
theorem ZsC{R:um->Yl->Prop}{vs:List Yh}{kw:List (aj×Yh)}(X:K.In s.heap)(hm:Jh K C=true)(hi:nJ K (.ref C) "__init__" =Ya (Ya (.ref f)))(hf:PySem.W.typeIn K (.ref f)=Ya (.type "function"))(h:nR (aB prog w) (A.under (.builtin "type.__call__" ⟨.ref C::vs,kw⟩)) (.call (.ref f) ⟨.ref (s.heap.objs.size+1)::vs,kw⟩) (PySem.W.InitBack (s.heap.objs.size+1) R)
   {s with heap:=(s.heap.push tX).push (vH C s.heap.objs.size)}):
  nR (aB prog w) A (.call (.ref C) ⟨vs,kw⟩) R s:=by
 obtain⟨hh,g,d,t,os⟩:=s;exact PySem.W.make_core (PySem.W.makes_of X hm) (PySem.W.looks_findIn X hi) (λself=>PySem.W.bind_fn X self hf) (.inl rfl) h
end
noncomputable def jo(f:aj)(v:V):List (aj×V)->List (aj×V)
 |[]=>[(f,v)]|(g,x)::r=>if g=f then(g,v)::r else(g,x)::jo f v r
theorem Zix(f g:aj)(v:V):∀fs:List (aj×V),(jo f v fs).lookup g=if g=f then Ya v else fs.lookup g
 | []=>by
  show xV g [(f,v)]=_;by_cases h:g=f
  .have hb:(g==f)=true:=beq_iff_eq.mpr h;simp only[xV,hb,if_pos h]
  .have hb:(g==f)=false:=beq_eq_false_iff_ne.mpr h;simp only[xV,hb,if_neg h]
 | (k,x)::r=>by
  have ih:=Zix f g v r;rw[show jo f v ((k,x)::r)=(if k=f then(k,v)::r else(k,x)::jo f v r)from rfl];by_cases hk:k=f
  .rw[if_pos hk];by_cases h:g=k
   .have hb:(g==k)=true:=beq_iff_eq.mpr h;simp only[xV,hb,if_pos (h.trans hk)]
   .have hb:(g==k)=false:=beq_eq_false_iff_ne.mpr h;simp only[xV,hb,if_neg (λe:g=f=>h (e.trans hk.symm))]
  .rw[if_neg hk];by_cases h:g=k
   .have hb:(g==k)=true:=beq_iff_eq.mpr h;simp only[xV,hb,if_neg (λe:g=f=>hk (h.symm.trans e))]
   .have hb:(g==k)=false:=beq_eq_false_iff_ne.mpr h;simp only[xV,hb];exact ih
theorem Sw(f:aj)(v:V):∀fs:List (aj×V),f∈(jo f v fs).map (·.1)/\∀g,g∈fs.map (·.1)->g∈(jo f v fs).map (·.1)
 |[]=>⟨by simp[jo],λg h=>by simp at h⟩|(k,x)::r=>by
  obtain⟨i1,i2⟩:=Sw f v r;rw[show jo f v ((k,x)::r)=(if k=f then(k,v)::r else(k,x)::jo f v r)from rfl];by_cases hk:k=f
  .rw[if_pos hk];subst hk;exact⟨by simp,λg h=>by simpa using h⟩
  .rw[if_neg hk];refine⟨?_,λg h=>?_⟩
   .rw[Ys];exact Yd _ i1
   .rw[Ys]at h ⊢;rcases Yo.mp h with e|e
    .exact Yo.mpr (.inl e)
    .exact Yd _ (i2 g e)
theorem ZiG(f:aj)(v:V):∀fs:List (aj×V),(jo f v fs).length<=fs.length+1
 |[]=>by simp[jo]|(k,x)::r=>by
  have ih:=ZiG f v r;rw[show jo f v ((k,x)::r)=(if k=f then(k,v)::r else(k,x)::jo f v r)from rfl];by_cases hk:k=f
  .rw[if_pos hk,Yk,Yk];exact jd _ _
  .rw[if_neg hk,Yk,Yk];exact lB 1 0xaa1cca0c0a1c001 T1 ih
theorem oZ.some_of{v:V}{o:Option Yh}(r:oZ (Ya v) o):∃u,o=Ya u/\RelV v u:=by
 cases o with
 |none=>exact(show False from r).elim|some u=>exact⟨u,rfl,r⟩
theorem Zqq{v:V}{u:Yh}(r:RelV v u):Z0 u=true:=by
 cases v with
 |non=>cases(show u=Value.none from r);rfl|bl b=>cases(show u=Value.bool b from r);rfl|int i=>obtain⟨t,e⟩:=(show∃t,u=Value.int i t from r);cases e;rfl|str x=>obtain⟨t,e⟩:=(show∃t,u=Value.str x t from r);cases e;rfl
 |Bm b=>obtain⟨t,e⟩:=(show∃t,u=Value.bytes b t from r);cases e;rfl|flt b=>obtain⟨t,e⟩:=(show∃t,u=Value.float b t from r);cases e;rfl|ref a=>cases(show u=Value.ref a from r);rfl|ty n=>cases(show u=Value.type n from r);rfl
section
variable {P:bR} {w:bJ} {H H':Hp} {h h':aR} {a C dx:Y4} {fs fs':List (aj×V)}
theorem Sx(hok:iy P w H h)(e:H a=Ya (.ins C dx fs)):∃mA,Br h a dx C mA/\(∀f,oZ (fs.lookup f) (mA f))/\QF mA (fs.map (·.1))/\fs.length<=1000/\H dx=Ya (.own a):=by obtain⟨d,z,ne,ob,mA,n,r,q⟩:=(show gZ P w H h a (.ins C dx fs)from hok a _ e);exact⟨mA,⟨ob,n,ne⟩,r,q,z,d⟩
end
structure wu(K:Yb)(C:Y4):Prop where
 pg:Jg K C Str.empty=true
 hd:Jf K C=true
 po:Qa K C=true
 sa:nJ K (.ref C) "__setattr__" =Ya (Ya (.builtin "object.__setattr__"))
theorem wu.get{K:Yb}{C:Y4}(c:wu K C)(f:aj):Jg K C f=true:=c.pg
def sH(K:Yb)(C:Y4)(f:aj):Prop:=nJ K (.ref C) f=Ya Ym
theorem sH.taker{K:Yb}{C:Y4}{f:aj}(n:sH K C f):Qe K C f=Ya Ym:=by unfold Qe;rw[show nJ K (.ref C) f=Ya Ym from n];rfl
structure Meth(K:Yb)(C:Y4)(m:aj)(f:Y4):Prop where
 aq:nJ K (.ref C) m=Ya (Ya (.ref f))
 fn:Ji K (.ref f)=true
 kp:tY K (.ref f)=true
section
variable {X:Cx} {pins:List (Y4×aP)} {σ:St} {H:Hp} {s:Yl} {a C dx:Y4} {fs:List (aj×V)} {f:aj} {v:V} {A:bW} {E:Yh->Yl->Prop}
theorem Zoi{b:Bool}(I:Inv X pins σ H s)(e:H a=Ya (.ins C dx fs))(c:wu X.K C)(n:sH X.K C f)(l:fs.lookup f=Ya v)(h:∀u s',Inv X pins σ H s'->RelV v u->Q u s'):ao (aB X.prog X.w) A (getAttr (.ref a) f b) Q E s:=by obtain⟨mA,O,r,_,_,_⟩:=Sx I.hok e;obtain⟨u,hu,ru⟩:=oZ.some_of (v:=v) (o:=mA f) (by rw[←l];exact r f);exact Ztd I.fG O (c.get f) c.hd n hu (Zqq ru) (h u _ (I.tok _) ru)
theorem Zoc{y:V}{u:Yh}{Q:Unit->Yl->Prop}(I:Inv X pins σ H s)(e:H a=Ya (.ins C dx fs))(c:wu X.K C)(n:sH X.K C f)(hl:fs.length<1000)(ry:RelV y u)(h:∀s',Inv X pins σ (upd H a (.ins C dx (jo f y fs))) s'->Q () s'):ao (aB X.prog X.w) A (setAttr (.ref a) f u) Q E s:=by
 obtain⟨mA,O,r,wi,_,ho⟩:=Sx I.hok e;have hz:(fs.map (·.1)).length<=bG:=by rw[Yu,Ao];exact lA 1 0x10000007b003e83b011 T1 hl
 refine ZtP I.fG O c.sa c.po n.taker c.hd wi hz λh' O' sb=>h _ ?_;have hd:∃o,h'.get? dx=Ya o:=let⟨o,_,_,e',_⟩:=O'.ns;⟨o,e'⟩;refine I.write (x:=a) (e:=dx) (by rw[e];exact True.intro) (.inr ho) (λb q hb z=>(sb.2 b hb).trans z) hd ?_;refine⟨by rw[gB O.ne];exact ho,?_,O.ne,O'.obj,_,O'.ns,λg=>?_,λg hg=>?_⟩
 .have:=ZiG f y fs;exact lB 2 0x3e83b003e83b111a1c001 T1 this hl
 .show oZ ((jo f y fs).lookup g) (if g=f then Ya u else mA g);rw[Zix];by_cases q:g=f
  .rw[if_pos q,if_pos q];exact ry
  .rw[if_neg q,if_neg q];exact r g
 .by_cases q:g=f
  .rw[q];exact(Sw f y fs).1
  .refine(Sw f y fs).2 g (wi g λz=>hg ?_);show(if g=f then Ya u else mA g)=Ym;rw[if_neg q];exact z
theorem Inv.made(I:Inv X pins σ H s):Inv X pins σ (upd (upd H s.heap.objs.size (.own (s.heap.objs.size+1))) (s.heap.objs.size+1) (.ins C s.heap.objs.size []))
  {s with heap:=(s.heap.push tX).push (vH C s.heap.objs.size)}:=by
 have e1:(s.heap.push tX).get? s.heap.objs.size=Ya tX:=Y5 s.heap rfl;have e2:((s.heap.push tX).push (vH C s.heap.objs.size)).get? (s.heap.objs.size+1)=Ya (vH C s.heap.objs.size):=by
  have:=Y5 (s.heap.push tX) (o:=vH C s.heap.objs.size) rfl
  rwa[yg]at this
 have e3:(s.heap.push tX).Ns s.heap.objs.size (λ_=>Ym):=⟨tX,#[],_,e1,rfl,(λe he=>absurd he (by simp)),λ_=>rfl⟩;have I1:=I.laid (a:=s.heap.objs.size) (o:=.own (s.heap.objs.size+1)) (h':=s.heap.push tX) (t':=s.toks) (λb u q=>Yn _ q) (Yt _) ⟨_,e1⟩;refine I1.laid (a:=s.heap.objs.size+1) (o:=.ins C s.heap.objs.size []) (t':=s.toks) (λb u q=>Yn _ q) (j9 (yg _ _)) ?_;have ne:s.heap.objs.size≠s.heap.objs.size+1:=d8 (Fw _);refine⟨by rw[gB ne,qN],fC _,ne,e2,λ_=>Ym,(Heap.Ns1.of_empty e3).at λo q=>Yn _ q,λ_=>True.intro,λy hy=>absurd rfl hy⟩
theorem Zt7{prog:bR}{w:bJ}{env:gj}{e:Expr}{f:aj}{pos:aZ}{s:Yl}(hb:nQ e f env (aM e env)=aM e env)(h:ao (aB prog w) A (aM e env) (λo s₁=>ao (aB prog w) A (getAttr o f true) Q E s₁) E s):ao (aB prog w) A (aM (.Attribute e f pos) env) Q E s:=Attribute_any_ h (by rw[arm_eval_Attribute,hb])
end
def ZyN(K:Yb)(ta:TE)(f:aj):TE:=λσ H Q=>ta σ H λx H1=>∃a C dx fs v,x= .ref a/\H1 a=Ya (.ins C dx fs)/\wu K C/\sH K C f/\fs.lookup f=Ya v/\Q v H1
def ZyW(K:Yb)(ta tv:TE)(f:aj):TS:=λD σ H=>tv σ H λy H1=>ta σ H1 λx H2=>∃a C dx fs,x= .ref a/\H2 a=Ya (.ins C dx fs)/\wu K C/\sH K C f/\fs.length<1000/\
 D.nx σ (upd H2 a (.ins C dx (jo f y fs)))
section
variable {X:Cx} {o e value:Expr} {f:aj} {pos pos' tpos:aZ} {ta tv:TE}
theorem Zv8(he:PE X e ta)(hb:nQ e f X.env (aM e X.env)=aM e X.env):PE X (.Attribute e f pos) (ZyN X.K ta f):=by intro pins s σ H Q I h;refine Zt7 hb (aJ (he pins s σ H _ I h) λu s1 ak=>?_);obtain⟨x,H1,I1,rx,a,C,dx,fs,v,ex,ea,c,n,l,q⟩:=ak;subst ex;obtain rfl:u=Value.ref a:=rx;exact Zoi I1 ea c n l λu' s2 I2 ru=>⟨v,H1,I2,ru,q⟩
theorem Zvc(ha:PE X o ta)(hv:PE X value tv)(hs:vR value (Ya (.Attribute o f pos')) pos.line X.env=pure false):PS X (.Assign [.Attribute o f pos'] value pos) (ZyW X.K ta tv f):=by intro pins s σ H D I h;refine plainObj_wpAny_Assign_Attribute (aJ (hv pins s σ H _ I h) λu s1 ⟨y,H1,I1,ry,q⟩=>aJ (ha pins s1 σ H1 _ I1 q) λov s2 ak=>?_) hs;obtain⟨x,H2,I2,rx,a,C,dx,fs,ex,ea,c,n,l,q2⟩:=ak;subst ex;obtain rfl:ov=Value.ref a:=rx;exact Zoc I2 ea c n l ry λs3 I3=>⟨σ,_,I3,q2⟩
end
section
variable {X:Cx} {pins:List (Y4×aP)} {σ:St} {H:Hp} {s:Yl} {A:bW} {E:Yh->Yl->Prop} {Q:Yh->Yl->Prop} {c:Yh} {b:Bool}
inductive pW(K:Yb)(H:Hp):V->Yh->Prop where
 |non:pW K H .non (.type "NoneType")
 |bl (x:Bool):pW K H (.bl x) (.type "bool")
 |int (i:Int):pW K H (.int i) (.type "int")
 |str (x:aj):pW K H (.str x) (.type "str")
 |flt (x:UInt64):pW K H (.flt x) (.type "float")
 |lst {a:Y4} {xs:List V} (e:H a=Ya (.lst xs)):pW K H (.ref a) (.type "list")
 |gA {a:Y4} {o:aP} {xs:List V} (e:H a=Ya (.gA o (.lst xs))):pW K H (.ref a) (.type "list")
 |tup {a:Y4} {xs:List V} (e:H a=Ya (.tup xs)):pW K H (.ref a) (.type "tuple")
 |dK {a:Y4} {kvs:List (Key×V)} (e:H a=Ya (.dK kvs)):pW K H (.ref a) (.type "dict")
 |dT {a:Y4} {kvs:List (List Key×V)} (e:H a=Ya (.dT kvs)):pW K H (.ref a) (.type "dict")
 | ins {a C dx:Y4} {fs:List (aj×V)} (e:H a=Ya (.ins C dx fs)) (cl:wu K C) (ha:nJ K (.ref C) "__class__" =Ya (Ya (.builtin "object.__class__")))
   (hn:PySem.W.specialIn K (.builtin "object.__class__") "__get__" =Ya (Ya (.builtin "getset_descriptor.__get__"))) (htk:PySem.W.takesIn K (.builtin "object.__class__")=Ya true)
   (hm:PySem.W.mroIn K C (.type "object")=Ya true):pW K H (.ref a) (.ref C)
theorem Bs{x:V}{u t:Yh}(I:Inv X pins σ H s)(rx:RelV x u)(ty:pW X.K H x t)(e:Z3 X.K t c=Ya b)(h:∀tk,Q (.bool b) {s with toks:=tk}):
  ao (aB X.prog X.w) A (call (.builtin "isinstance") [u,c]) Q E s:=by
 cases ty with
 |non=>cases(show u=Value.none from rx);exact pJ ZX I.fG True.intro e (λz=>nomatch z) h|bl y=>cases(show u=Value.bool y from rx);exact pJ ZZ I.fG True.intro e (λz=>nomatch z) h|int i=>obtain⟨t,q⟩:=(show∃t,u=Value.int i t from rx);cases q;exact pJ Z1 I.fG True.intro e (λz=>nomatch z) h|str y=>obtain⟨t,q⟩:=(show∃t,u=Value.str y t from rx);cases q;exact pJ Z2 I.fG True.intro e (λz=>nomatch z) h
 |flt y=>obtain⟨t,q⟩:=(show∃t,u=Value.float y t from rx);cases q;exact pJ PySem.W.kitx_float I.fG True.intro e (λz=>nomatch z) h|@lst a xs ea=>
  cases(show u=Value.ref a from rx)
  obtain⟨_,_,n,_,h1⟩:=(show gZ X.prog X.w H s.heap a (.lst xs)from I.hok a _ ea);exact pJ Qc I.fG ⟨_,h1,rfl⟩ e (λz=>nomatch z) h
 | @gA a ob xs ea=>
  cases(show u=Value.ref a from rx)
  obtain⟨_,_,_,n,_,h1⟩:=(show gZ X.prog X.w H s.heap a (.gA ob (.lst xs))from I.hok a _ ea);exact pJ Qc I.fG ⟨_,h1,rfl⟩ e (λz=>nomatch z) h
 | @tup a xs ea=>
  cases(show u=Value.ref a from rx)
  obtain⟨_,_,_,p⟩:=(show gZ X.prog X.w H s.heap a (.tup xs)from I.hok a _ ea);obtain⟨o,h1,h2,_⟩:=p;exact pJ PX I.fG ⟨o,h1,h2.1⟩ e (λz=>nomatch z) h
 | @dK a kvs ea=>
  cases(show u=Value.ref a from rx)
  obtain⟨_,_,vs,_,p⟩:=(show gZ X.prog X.w H s.heap a (.dK kvs)from I.hok a _ ea);obtain⟨o,es,ep,h1,h2,_⟩:=p;exact pJ Qd I.fG ⟨o,h1,h2.1⟩ e (λz=>nomatch z) h
 | @dT a kvs ea=>
  cases(show u=Value.ref a from rx)
  obtain⟨_,_,xs,_,o,es,ep,h1,h2,_⟩:=(show gZ X.prog X.w H s.heap a (.dT kvs)from I.hok a _ ea);exact pJ Qd I.fG ⟨o,h1,h2.1⟩ e (λz=>nomatch z) h
 | @ins a C dx fs ea cl ha hn htk hm=>
  cases(show u=Value.ref a from rx)
  obtain⟨mA,O,_⟩:=Sx I.hok ea;obtain⟨od,J,_⟩:=O.look;exact pJ (PySem.W.kitx_own (cl.get _) cl.hd ha hn htk hm) I.fG J e (λz=>nomatch z) h
end
end _L2
namespace _L2
open PySem PySem.Spec PyProof.Rows
structure d9(k:Nat)(A:bW):Prop where
 hd:A.handled=Ym
 dp:A.depth+3*k+5<recursionLimit
 un:A.units+16*k+200<jL
variable{A:bW}
theorem d9.mono{j k:Nat}(r:d9 k A)(h:j<=k):d9 j A:=⟨r.hd,by have:=r.dp;exact lD 2 0x251b303d0cc11303251b103d0cc11 T1 this h,by have:=r.un;omega⟩
theorem d9.deeper{k:Nat}(r:d9 (k+1) A)(env:gj):d9 k (A.deeper env):=⟨r.hd,by have:=r.dp;show A.depth+1+3*k+5<_;exact lC 1 0x251b103da0ccc1251ba1c03d0cc11 T1 this,by have:=r.un;show A.units+3+16*k+200<_;exact lC 1 0x2c82b110d31b0ccc12c82ba1c10d0cc11 T1 this⟩
theorem d9.in1{k:Nat}(r:d9 (k+1) A):d9 k A.in1:=⟨r.hd,by have:=r.dp;show A.depth+3*k+5<_;exact lC 1 0x251b103d0cc1251ba1c03d0cc11 T1 this,by have:=r.un;show A.units+1+16*k+200<_;exact lC 1 0x2c82b110da0ccc12c82ba1c10d0cc11 T1 this⟩
variable{us:List Yh}
theorem Zoy{C:Y4}{kw:List (aj×Yh)}:(A.under (.builtin "type.__call__" ⟨.ref C::us,kw⟩)).depth=A.depth+1:=by first|rfl|simp[Rx,Code.weight,Code.isCreation,Code.isGuard,Code.isCaller,Code.frames,RJ,guardIds]
theorem Zop{C:Y4}{kw:List (aj×Yh)}:(A.under (.builtin "type.__call__" ⟨.ref C::us,kw⟩)).units=A.units+1:=by first|rfl|simp[Rx,Code.cUnits,Code.frames,RJ]
theorem d9.make{k:Nat}(r:d9 (k+1) A)(C:Y4)(us:List Yh)(kw:List (aj×Yh)):d9 k (A.under (.builtin "type.__call__" ⟨.ref C::us,kw⟩)):=⟨r.hd,by have:=r.dp;rw[Zoy];exact lC 1 0x251b103da0ccc1251ba1c03d0cc11 T1 this,by have:=r.un;rw[Zop];exact lC 1 0x2c82b110da0ccc12c82ba1c10d0cc11 T1 this⟩
theorem d9.depth{k:Nat}(r:d9 k A):A.depth<recursionLimit:=by have:=r.dp;exact lC 1 0x201251b103d0cc11 T1 this
theorem d9.units{k:Nat}(r:d9 k A):A.units+64<jL:=by have:=r.un;exact lC 1 0x2402b0c12c82b110d0cc11 T1 this
def ZxA:TA:=λ_ H Q=>Q [] H
def Zuw(ta:TE)(tr:TA):TA:=λσ H Q=>ta σ H λx H1=>tr σ H1 λxs H2=>Q (x::xs) H2
section
variable {X:Cx} {e:Expr} {es:List Expr} {te:TE} {t:TA} {pos:aZ}
theorem Gm:PA X [] ZxA:=λ_ _ _ _ H Q I h=>Ykr ⟨[],H,I,.nil,h⟩
theorem wz(ha:PE X e te)(hr:PA X es t)(hs:autoParam (Yz (e::es) X.env=(false,aM e X.env)::Yz es X.env) qA):PA X (e::es) (Zuw te t):=by intro pos pins s σ H Q I h;rw[hs];show ao _ _ (JL ((false,aM e X.env)::cN pos (Yz es X.env))) _ _ s;refine RG (aJ (ha pins s σ H _ I h) λu s1 ak=>?_);obtain⟨x,H1,I1,r1,q1⟩:=ak;exact aJ (hr pos pins s1 σ H1 _ I1 q1) λus s2 ⟨xs,H2,I2,r2,q2⟩=>⟨x::xs,H2,I2,.cons r1 r2,q2⟩
def Zzd(t:TA):TE:=λσ H Q=>t σ H λxs H1=>xs.length<=bG/\∀p,H1 p=Ym->Q (.ref p) (upd H1 p (.tup xs))
def ZyP(t:TA):TE:=λσ H Q=>t σ H λxs H1=>xs.length<=bG/\∀p,H1 p=Ym->Q (.ref p) (upd H1 p (.lst xs))
theorem Zq4{x1}(h:PA X es t):PE X (.Tuple es x1 pos) (Zzd t):=by intro pins s σ H Q I hq;refine wpAny_Tuple_spliced (aJ (h pos pins s σ H _ I hq) λus s1 ⟨xs,H1,I1,r,z,q⟩=>⟨by rw[←r.length];exact z,?_⟩);have hf:H1 s1.heap.objs.size=Ym:=I1.hok.fresh (Yt _);refine⟨.ref s1.heap.objs.size,upd H1 s1.heap.objs.size (.tup xs),I1.laid (t':=s1.toks) (λb u e=>Yn _ e) (Yt _) ?_,rfl,q _ hf⟩;exact⟨z,us,r,⟨_,Y5 _ rfl,⟨rfl,rfl⟩,_,rfl⟩⟩
theorem ZwC(h:PA X es t):PE X (.List es pos) (ZyP t):=by intro pins s σ H Q I hq;refine wpAny_List_spliced (aJ (h pos pins s σ H _ I hq) λus s1 ⟨xs,H1,I1,r,z,q⟩=>⟨by rw[←r.length];exact z,?_⟩);have hf:H1 s1.heap.objs.size=Ym:=I1.hok.fresh (Yt _);refine⟨.ref s1.heap.objs.size,upd H1 s1.heap.objs.size (.lst xs),I1.laid (t':=s1.toks) (λb u e=>Yn _ e) (Yt _) ?_,rfl,q _ hf⟩;exact⟨z,us,0,r,Y5 _ rfl⟩
end
noncomputable abbrev Sp:=List V->Hp->VK->XK->Prop
noncomputable abbrev pX:=List gj->Hp->Yl->XK->Yh->Yl->Prop
structure sI(P:bR)(w:bJ)(K:Yb)(mg:aj->Option Yh)(base:aR)(A:bW)(outer:List gj)(s:Yl)(H:Hp):Prop where
 frames:A.frames=Ya outer
 mod:Mod K mg base
 bs:∀b o,base.get? b=Ya o->s.heap.get? b=Ya o/\H b=Ym
 qO:base.objs.size<=s.heap.objs.size
 oW:s.heap.FunFrames base outer
 wk:∀b∈frs outer,H b=Ym
 hok:iy P w H s.heap
 bare:ut s.gens
def CE(outer:List gj)(P:bR)(w:bJ)(H:Hp)(s:Yl)(Q:VK)(u:Yh)(s':Yl):Prop:=∃v H',s'.os=s.os/\ut s'.gens/\Un (frs outer) [] H H' s.heap s'.heap/\iy P w H' s'.heap/\RelV v u/\Q v H'
def CR(CX:pX)(outer:List gj)(P:bR)(w:bJ)(H:Hp)(s:Yl)(Q:VK)(E:XK)(r:um)(s':Yl):Prop:=
 match r with
 | .ok (.ret u)=>CE outer P w H s Q u s'|.ok _=>False|.error e=>CX outer H s E e s'
structure jO(P:bR)(w:bJ)(K:Yb)(mg:aj->Option Yh)(base:aR)(CX:pX)(k:Nat)(f:Y4)(fd:lU)(ps:List aj)(sp:Sp):Prop where
 len:∀vs H Q E,sp vs H Q E->vs.length=ps.length
 run:∀(A:bW) (outer:List gj) (s:Yl) (H:Hp) (args:Args) (us:List Yh) (vs:List V) (Q:VK) (E:XK),d9 k A->sI P w K mg base A outer s H->Aq s fd args (ps.zip us)->Vals vs us->sp vs H Q E ->
  nR (aB P w) A (.call (.ref f) args) (CR CX outer P w H s Q E) s
variable{w:bJ}{K:Yb}{ps:List aj}{P:bR}{mg:aj->Option Yh}{base:aR}
theorem jO.mono{CX:pX}{j k:Nat}{f:Y4}{fd:lU}{sp:Sp}(F:jO P w K mg base CX j f fd ps sp)(h:j<=k):
  jO P w K mg base CX k f fd ps sp:=⟨F.len,λA outer s H args us vs Q E hr=>F.run A outer s H args us vs Q E (hr.mono h)⟩
variable{H:Hp}{outer:List gj}{s:Yl}
theorem sI.make(e:sI P w K mg base A outer s H)(C:Y4)(us:List Yh)(kw:List (aj×Yh)):
  sI P w K mg base (A.under (.builtin "type.__call__" ⟨.ref C::us,kw⟩)) outer s H:=⟨by first|exact e.frames|(simpa[Rx,Code.envs,RJ,pushEnvs]using e.frames),e.mod,e.bs,e.qO,e.oW,e.wk,e.hok,e.bare⟩
theorem sI.in1(e:sI P w K mg base A outer s H):
  sI P w K mg base A.in1 outer s H:=⟨e.frames,e.mod,e.bs,e.qO,e.oW,e.wk,e.hok,e.bare⟩
section
variable {X:Cx} {pins:List (Y4×aP)} {σ:St} {H:Hp} {s s':Yl}
theorem Inv.env0(I:Inv X pins σ H s):sI X.prog X.w X.K X.mg X.base X.A X.stack s H:=⟨I.ok.frames,I.ok.mod,I.bs,Yi I.ok.qO I.sz,I.stack,I.Xr,I.hok,I.bare⟩
theorem Inv.after{Q:VK}{u:Yh}(I:Inv X pins σ H s)(h:CE X.stack X.prog X.w H s Q u s'):EP X pins σ Q u s':=by obtain⟨v,H',os,bare,un,hok,r,q⟩:=h;obtain⟨hh,g,d,t,os'⟩:=s';obtain rfl:os'=s.os:=os;exact⟨v,H',I.call (h':=hh) (g':=g) (d':=d) (t':=t) (ch:=[]) un hok bare (λb z=>absurd z (by simp)),r,q⟩
end
def Zxu(sp:Sp)(mO:List V)(E:XK)(t:TA):TE:=λσ H Q=>t σ H λvs H1=>sp (vs++mO) H1 Q E
def Zx9(C:Y4)(sp:Sp)(mO:List V)(E:XK)(t:TA):TE:=λσ H Q=>t σ H λvs H1=>∀x dx,H1 x=Ym->H1 dx=Ym->dx≠x ->
 sp (.ref x::(vs++mO)) (upd (upd H1 dx (.own x)) x (.ins C dx [])) (λv H2=>v= .non/\Q (.ref x) H2) E
def Binds(K:Yb)(fd:lU)(ps:List aj)(ds:List Yh):Prop:=∀(s:Yl) (us:List Yh),K.In s.heap->(us++ds).length=ps.length->Aq s fd ⟨us,[]⟩ (ps.zip (us++ds))
theorem Binds.all{fd:lU}(h:∀us:List Yh,us.length=ps.length->bindArgs fd ⟨us,[]⟩=pure (ps.zip us)):Binds K fd ps []:=λs us _ hl=>by rw[kO]at hl ⊢;exact .of_eq (h us hl)
def Gn(CX:pX)(X:Cx)(E:XK):Prop:=∀(pins:List (Y4×aP)) (σ:St) (H:Hp) (s:Yl) (e:Yh) (s':Yl),Inv X pins σ H s->CX X.stack H s E e s'->X.xe e s'
variable{vs:List V}
section
variable {X:Cx} {CX:pX} {k:Nat} {f C:Y4} {fd:lU} {ps:List aj} {sp:Sp} {mO:List V} {ds:List Yh} {E:XK} {x m:aj} {p pos apos:aZ} {e o:Expr} {es:List Expr} {ta:TE} {t:TA}
theorem ZwW{pins:List (Y4×aP)}{σ:St}{Q:VK}(F:jO X.prog X.w X.K X.mg X.base CX k f fd ps sp)(hr:d9 k X.A)(hb:Binds X.K fd ps ds)(hd:Vals mO ds)(hx:Gn CX X E)(I:Inv X pins σ H s)(r:Vals vs us)(h:sp (vs++mO) H Q E):ao (aB X.prog X.w) X.A (call (.ref f) us) (EP X pins σ Q) X.xe s:=by
 have r2:Vals (vs++mO) (us++ds):=r.append hd;have hl:(us++ds).length=ps.length:=by rw[←r2.length];exact F.len _ _ _ _ h
 refine Fq (vQ (F.run X.A X.stack s H ⟨us,[]⟩ (us++ds) (vs++mO) Q E hr I.env0 (hb s us I.fG hl) r2 h) λr s' hq=>?_);cases r with
 |error e=>exact hx pins σ H s e s' I hq|ok fl=>
  cases fl with
  |ret u=>exact I.after hq|next=>exact jM hq|brk=>exact jM hq|cont=>exact jM hq
theorem Ztl(F:jO X.prog X.w X.K X.mg X.base CX k f fd ps sp)(hr:d9 k X.A)(hg:Gl X x)(hm:X.mg x=Ya (.ref f))(hk:tY X.K (.ref f)=true)(hb:Binds X.K fd ps ds)(hd:Vals mO ds)(hx:Gn CX X E)(ha:PA X (e::es) t)(hdb:autoParam ((x==("__debug__":aj))=false) qB)(he:autoParam (Yz (e::es) X.env=(false,aM e X.env)::Yz es X.env) qA)(hpl:autoParam ((cN pos (Yz es X.env)).any (·.1)=false) qA):
  PE X (.Call (.Name x p) (e::es) [] pos) (Zxu sp mO E t):=by
 intro pins s σ H Q I h;refine Ak (R8 I hg hm ?_ hdb);refine ZW (h₀:=X.base) I.ok.mod.Gh hk (aJ (ha pos pins s σ H _ I h) λus s1 ⟨vs,H1,I1,r,q⟩=>⟨I1.fG,?_⟩) he hpl;exact ZwW F hr hb hd hx I1 r q
structure Mk(K:Yb)(C f:Y4):Prop where
 makes:Jh K C=true
 init:nJ K (.ref C) "__init__" =Ya (Ya (.ref f))
 fn:Ji K (.ref f)=true
 kp:tY K (.ref C)=true
theorem ZqO{pins:List (Y4×aP)}{σ:St}{Q:VK}(M:Mk X.K C f)(F:jO X.prog X.w X.K X.mg X.base CX k f fd ps sp)(hr:d9 (k+1) X.A)(hb:Binds X.K fd ps ds)(hd:Vals mO ds)(hx:Gn CX X E)(I:Inv X pins σ H s)(r:Vals vs us)(h:∀x dx,H x=Ym->H dx=Ym->dx≠x->sp (.ref x::(vs++mO)) (upd (upd H dx (.own x)) x (.ins C dx [])) (λv H2=>v= .non/\Q (.ref x) H2) E):
  ao (aB X.prog X.w) X.A (call (.ref C) us) (EP X pins σ Q) X.xe s:=by
 have hq:=h (s.heap.objs.size+1) s.heap.objs.size (I.hok.fresh (v8 _)) (I.hok.fresh (Yt _)) (d8 (Fw _));have I2:=Inv.made (C:=C) I;have r2:Vals (V.ref (s.heap.objs.size+1)::(vs++mO)) (Value.ref (s.heap.objs.size+1)::(us++ds)):=.cons rfl (r.append hd);have hl:(Value.ref (s.heap.objs.size+1)::us++ds).length=ps.length:=by have e:=r2.length;rw[F.len _ _ _ _ hq]at e;exact e.symm
 refine Fq (ZsC (f:=f) I.fG M.makes M.init (beq_iff_eq.mp M.fn) (vQ (F.run _ X.stack _ _ ⟨Value.ref (s.heap.objs.size+1)::us,[]⟩ (Value.ref (s.heap.objs.size+1)::(us++ds)) _ _ E (hr.make C us [])
  (I2.env0.make C us []) (hb _ (Value.ref (s.heap.objs.size+1)::us) I2.fG hl) r2 hq) λr s' hq'=>?_))
 cases r with
 |error e=>exact hx pins σ _ _ e s' I2 hq'|ok fl=>
  cases fl with
  |ret u=>obtain⟨v,H',I3,rv,ev,q3⟩:=I2.after hq';subst ev;exact⟨rv,⟨V.ref (s.heap.objs.size+1),H',I3,rfl,q3⟩⟩|next=>exact jM hq'|brk=>exact jM hq'
  |cont=>exact jM hq'
theorem ZtE(M:Mk X.K C f)(F:jO X.prog X.w X.K X.mg X.base CX k f fd ps sp)(hr:d9 (k+1) X.A)(hg:Gl X x)(hm:X.mg x=Ya (.ref C))(hb:Binds X.K fd ps ds)(hd:Vals mO ds)(hx:Gn CX X E)(ha:PA X (e::es) t)(hdb:autoParam ((x==("__debug__":aj))=false) qB)(he:autoParam (Yz (e::es) X.env=(false,aM e X.env)::Yz es X.env) qA)(hpl:autoParam ((cN pos (Yz es X.env)).any (·.1)=false) qA):
  PE X (.Call (.Name x p) (e::es) [] pos) (Zx9 C sp mO E t):=by
 intro pins s σ H Q I h;refine Ak (R8 I hg hm ?_ hdb);refine ZW (h₀:=X.base) I.ok.mod.Gh M.kp (aJ (ha pos pins s σ H _ I h) λus s1 ⟨vs,H1,I1,r,q⟩=>⟨I1.fG,?_⟩) he hpl;exact ZqO M F hr hb hd hx I1 r q
end
def PK(X:Cx)(kws:List Keyword)(t:TA):Prop:=∀(pos:aZ) (pins:List (Y4×aP)) (s:Yl) (σ:St) (H:Hp) (Q:List V->Hp->Prop),Inv X pins σ H s->t σ H Q->ao (aB X.prog X.w) X.A (JN ((jc pos (i_ kws X.env)).map (·.2))) (AP X pins σ Q) X.xe s
section
variable {X:Cx} {CX:pX} {k:Nat} {f C:Y4} {fd:lU} {ps ks:List aj} {sp:Sp} {E:XK} {x m:aj} {p pos apos kpos:aZ} {e o:Expr} {es:List Expr} {kws:List Keyword} {te ta:TE} {t tk:TA} {nm:Option aj}
theorem ZrY:PK X [] ZxA:=λ_ _ _ _ H Q I h=>wpAny_evalAll_nil ⟨[],H,I,.nil,h⟩
theorem Zpi(ha:PE X e te)(hr:PK X kws t):PK X (⟨nm,e,kpos⟩::kws) (Zuw te t):=by intro pos pins s σ H Q I h;show ao _ _ (JN ((do let v ←aM e X.env;Fv pos;pure v)::(jc pos (i_ kws X.env)).map (·.2))) _ _ s;refine wpAny_evalAll_cons (Yg (aJ (ha pins s σ H _ I h) λu s1 ⟨x,H1,I1,r1,q1⟩=>Yg (vP (Yv ?_))));exact aJ (hr pos pins s1 σ H1 _ I1 q1) λus s2 ⟨xs,H2,I2,r2,q2⟩=>⟨x::xs,H2,I2,.cons r1 r2,q2⟩
variable {g:List Yh->List Yh->List Yh} {gV:List V->List V->List V}
end
structure dg(N P:List aj)(sc:Scope):Prop where
 kind:sc.kind= .function
 co:sc.isCoroutine=false
 gen:sc.isGenerator=false
 nd:N.Nodup
 pre:N.take P.length=P
 par:∀x∈P,sc.names.lookup x=Ya .local\/sc.names.lookup x=Ya .cell
 Abe:∀y∈sc.names,y.2≠ .free
theorem ZkT{nW:aj->Option NameKind}{x:aj}:∀{binds:List (aj×Yh)} {m:aj->Option Yh},(∀v,(x,v)∉binds)->vZ nW binds m x=m x
 |[],_,_=>rfl|(n,v)::r,m,h=>by
  unfold vZ;rw[ZkT λw hw=>h w (Yd _ hw)];split
  .have:x≠n:=by rintro rfl;exact h v Yc
   simp[this]
  .rfl
theorem Zk9{nW:aj->Option NameKind}{x:aj}:∀{binds:List (aj×Yh)} {m:aj->Option Yh},(∀v,(x,v)∉binds)->v4 nW binds m x=m x
 |[],_,_=>rfl|(n,v)::r,m,h=>by
  unfold v4;rw[Zk9 λw hw=>h w (Yd _ hw)];split
  .rfl
  .have:x≠n:=by rintro rfl;exact h v Yc
   simp[this]
theorem ZkE{nW:aj->Option NameKind}{x:aj}{v:Yh}:∀{P:List aj} {vs:List Yh} {i:Nat} {m:aj->Option Yh},P.Nodup->P[i]?=Ya x->vs[i]?=Ya v->nW x=Ya .local ->
  vZ nW (P.zip vs) m x=Ya v
 |[],_,_,_,_,h,_,_=>by simp at h|_::_,[],_,_,_,_,h,_=>by simp at h|p::P,w::vs,0,m,nd,h1,h2,hk=>by simp at h1 h2;subst h1;subst h2;show vZ nW ((p,w)::P.zip vs) m p=_;unfold vZ;rw[ZkT λv hv=>(iR.mp nd).1 (Qn hv).1,if_pos hk];simp|p::P,w::vs,i+1,m,nd,h1,h2,hk=>by show vZ nW ((p,w)::P.zip vs) m x=_;unfold vZ;exact ZkE (i:=i) (iR.mp nd).2 (by simpa using h1) (by simpa using h2) hk
theorem Zk7{nW:aj->Option NameKind}{x:aj}{v:Yh}:∀{P:List aj} {vs:List Yh} {i:Nat} {m:aj->Option Yh},P.Nodup->P[i]?=Ya x->vs[i]?=Ya v->nW x≠Ya .local ->
  v4 nW (P.zip vs) m x=Ya v
 |[],_,_,_,_,h,_,_=>by simp at h|_::_,[],_,_,_,_,h,_=>by simp at h|p::P,w::vs,0,m,nd,h1,h2,hk=>by simp at h1 h2;subst h1;subst h2;show v4 nW ((p,w)::P.zip vs) m p=_;unfold v4;rw[Zk9 λv hv=>(iR.mp nd).1 (Qn hv).1,if_neg hk];simp|p::P,w::vs,i+1,m,nd,h1,h2,hk=>by show v4 nW ((p,w)::P.zip vs) m x=_;unfold v4;exact Zk7 (i:=i) (iR.mp nd).2 (by simpa using h1) (by simpa using h2) hk
noncomputable def start(N:List aj)(vs:List V):St:=vs.map Ya++Yr (N.length-vs.length) Ym
noncomputable def uE(CX:pX)(P:bR)(w:bJ)(K:Yb)(mg:aj->Option Yh)(base:aR)(N:List aj)(qual:aj)(scope:Scope)(f:Y4)(cd:Yh)(A:bW)(outer:List gj)(s:Yl)(H:Hp)(E:XK):Cx where
 prog:=P
 w:=w
 K:=K
 mg:=mg
 base:=base
 A:=A.deeper (pP qual scope s.heap.objs.size f cd)
 N:=N
 s₀:=s
 H₀:=H
 env:=pP qual scope s.heap.objs.size f cd
 outer:=outer
 stack:=pP qual scope s.heap.objs.size f cd::outer
 ex:=[]
 calm:=true
 fn:=λ_=>true
 pn:=[]
 xe:=λe s'=>ao (aB P w) (A.deeper (pP qual scope s.heap.objs.size f cd)) (leaving (pP qual scope s.heap.objs.size f cd) e) (λ_ s''=>CX outer H s E e s'') (λe' s''=>CX outer H s E e' s'') s'
theorem Zmy{sc:Scope}{n:Nat}{x:aj}(h:sc.names.lookup x=Ya .cell):∃c,(QS n sc.names []).lookup x=Ya c:=by have q:=ZV sc.names n [] (.inl h);exact Je.mp q
theorem Zp4{CX:pX}{N:List aj}{qual:aj}{scope:Scope}{f:Y4}{cd:Yh}{s1:Yl}{E:XK}(S:dg N ps scope)(hd:A.handled=Ym)(e0:sI P w K mg base A outer s H)(hl:vs.length=ps.length)(r:Vals vs us)(x:InCallC s s.heap.objs.size (vZ (pP qual scope s.heap.objs.size f cd).kindOf (ps.zip us) λ_=>Ym) (QS (s.heap.objs.size+1) scope.names []) (v4 (pP qual scope s.heap.objs.size f cd).kindOf (ps.zip us) λ_=>Ym) s1):
  Inv (uE CX P w K mg base N qual scope f cd A outer s H E) [] (start N vs) H s1:=by
 have hpl:ps.length<=N.length:=by have:=congrArg ud S.pre;rw[Ah]at this;omega
 obtain⟨h1,tk,rfl,hk⟩:=x.done;have Gp:∀b:Y4,b∉(uE CX P w K mg base N qual scope f cd A outer s H E).ex:=λb z=>absurd (show b∈([]:List Y4)from z) (by simp);refine⟨⟨e0.mod,S.kind,rfl,rfl,Yt _,λy z c h1 h2=>?_,λy hy=>?_,λy c _ h=>?_,λ_=>hd,Around.frames_deeper e0.frames,.inr ⟨rfl,rfl⟩,λb z=>absurd z (Gp b),e0.bs,e0.qO,λb _ _=>Gp b,λb z=>absurd z (Gp b),e0.oW,e0.wk⟩,
  rfl,e0.bare,Un.kept hk,⟨_,x.toInCall.ns,λi y v h1 h2 h3=>?_⟩,λy c h=>⟨_,x.cell y c h⟩,e0.hok.fresh (Yt _),λy c h=>?_,λp hp=>absurd (show p∈([]:List (Y4×aP))from hp) (by simp),e0.hok.kept hk,?_⟩
 .exact name_of_addr x.apart (uf h1) (uf h2)
 .have hy:scope.names.lookup y=Ya .cell\/scope.names.lookup y=Ya .free:=hy;rcases hy with hy|hy
  .exact Zmy hy
  .exact absurd rfl (S.Abe _ (uf hy))
 .exact Az (x.above y c (uf h))
 .have hi:i<vs.length:=by
   unfold start at h2;by_cases hi:i<vs.length
   .exact hi
   .rw[xQ (by simpa using hi)]at h2;rw[Jk]at h2;split at h2<;>cases h2
  have ha:vs[i]?=Ya v:=by
   unfold start at h2;rw[Yj (by simpa using hi),lO]at h2;cases e:vs[i]? with
   |none=>rw[e]at h2;cases h2|some a=>rw[e]at h2;cases h2;rfl
  obtain⟨u,hu,rv⟩:=r.get ha;have hp:ps[i]?=Ya y:=by rw[←S.pre,xR (by exact lC 2 2203874037777 T1 hi hl)];exact h1
  have ndP:ps.Nodup:=by rw[←S.pre];exact S.nd.sublist (Yks _ _)
  refine⟨u,rv,?_⟩;rcases S.par y (xT hp)with k|k
  .exact .inl ⟨k,ZkE ndP hp hu k⟩
  .obtain⟨c,e⟩:=Zmy (n:=s.heap.objs.size+1) k;refine .inr ⟨.inl k,c,e,?_⟩;have q:=x.cell y c e;rw[Zk7 ndP hp hu (by show scope.names.lookup y≠_;rw[k];decide)]at q;exact q
 .exact e0.hok.fresh (Az (x.above y c (uf h)))
 .unfold start;show _=N.length;rw[Yf,Yu,nP];exact Y1 (lC 1 2206541614113 T1 (Y9 (lC 2 1236986302465 T1 hpl hl))) (lC 1 1288492400641 T1 (gO _ _))
theorem Zxh{CX:pX}{k:Nat}{f:Y4}{name qual:aj}{params:Arguments}{body:List Yep}{scope:Scope}{dV kV doc pm cdv ct oc:Yh}{an od:Option Y4}{osl:Array (Option Yh)}{N:List aj}{sp:Sp}(lk:K.lookup f=Ya ⟨oc,od,.func (rR name qual params body scope dV kV doc pm an cdv ct),osl⟩)(hcd:EY K cdv qual=true)(S:dg N ps scope)(len:∀vs H Q E,sp vs H Q E->vs.length=ps.length)(hbody:∀(A:bW) (outer:List gj) (s:Yl) (H:Hp) (vs:List V) (Q:VK) (E:XK),d9 k (A.deeper (pP qual scope s.heap.objs.size f cdv))->sp vs H Q E ->
   ∃t,kZ (uE CX P w K mg base N qual scope f cdv A outer s H E) body t/\t {nx:=λ_ H'=>Q .non H',rt:=Q} (start N vs) H):
  jO P w K mg base CX (k+1) f (rR name qual params body scope dV kV doc pm an cdv ct) ps sp:=by
 refine⟨len,λA outer s H args us vs Q E hr e0 hb r hsp=>?_⟩;have hl:=len _ _ _ _ hsp;have KX:K.In s.heap:=e0.mod.Gh.keeps λb o e=>(e0.bs b o e).1;have lim:s.heap.NoLimit:=e0.mod.nolimit.keeps λb o e=>(e0.bs b o e).1;have hkind:∀y∈ps.zip us,scope.names.lookup y.1=Ya .local\/(scope.names.lookup y.1=Ya .cell/\((QS (s.heap.objs.size+1) scope.names []).lookup y.1).isSome=true):=λ⟨n,v⟩ hy=>by
  rcases S.par n (Qn hy).1 with q|q
  .exact .inl q
  .exact .inr ⟨q,ZV _ _ _ (.inl q)⟩
 refine codeAny_call_function hr.depth (KX _ _ lk) rfl S.co S.gen rfl (PySem.W.codeRec_of KX hcd) (hb _ _ _ _ ?_);refine wpAny_newFunctionEnv_cells S.kind hkind λenv he s1 x=>?_;subst he;refine⟨lim.keeps x.toInCall.keep,codeAny_func ?_⟩;obtain⟨t,ht,hq⟩:=hbody A outer s H vs Q E (hr.deeper _) hsp;have I:Inv (uE CX P w K mg base N qual scope f cdv A outer s H E) [] (start N vs) H s1:=Zp4 S hr.hd e0 hl r x;refine j7 (ht [] s1 (start N vs) H _ I hq) (λfl s' hs=>?_) λe s' hs=>hs;have fin:∀{σ':St} {H':Hp} {v:V} {u:Yh},Inv (uE CX P w K mg base N qual scope f cdv A outer s H E) [] σ' H' s'->RelV v u->Q v H'->CE outer P w H s Q u s':=λ{σ' H' v u} J rv q=>⟨v,H',J.os,J.bare,J.base,J.hok,rv,q⟩;cases fl with
 |ret u=>obtain⟨v,σ',H',J,rv,q⟩:=hs;exact fin J rv q|next=>obtain⟨σ',H',J,q⟩:=hs;exact fin (v:=V.non) (u:=Value.none) J rfl q|brk=>obtain⟨_,_,_,q⟩:=hs;exact jM q|cont=>obtain⟨_,_,_,q⟩:=hs;exact jM q
end _L2
namespace _L2
open PySem PySem.Spec PyProof.Rows
section
variable {X:Cx} {x:aj} {p pos:aZ} {e:Expr} {es:List Expr} {t:TA} {id T:String} {r:List V->Hp->VK->Prop}
def Sy(r:List V->Hp->VK->Prop)(t:TA):TE:=λσ H Q=>t σ H λvs H1=>r vs H1 Q
theorem KN(hc:dB X (.builtin id) r)(hg:Gl X x)(hm:X.mg x=Ym)(hv:kY x=Ya (.builtin id))(ha:PA X (e::es) t)(hn:autoParam (x≠ "__name__") qB)(hdb:autoParam ((x==("__debug__":aj))=false) qB)(he:autoParam (Yz (e::es) X.env=(false,aM e X.env)::Yz es X.env) qA)(hpl:autoParam ((cN pos (Yz es X.env)).any (·.1)=false) qA):PE X (.Call (.Name x p) (e::es) [] pos) (Sy r t):=by intro pins s σ H Q I h;refine Ak (yw I hg hm hv ?_ hn hdb);exact PyProof.Rows.callWith_builtin1 (aJ (ha pos pins s σ H _ I h) λus s1 ⟨vs,H1,I1,r1,q1⟩=>hc pins s1 σ H1 vs us Q I1 r1 q1) he hpl
theorem Zk1(hc:dB X (.type T) r)(hg:Gl X x)(hm:X.mg x=Ym)(hv:kY x=Ya (.type T))(ha:PA X (e::es) t)(hn:autoParam (x≠ "__name__") qB)(hdb:autoParam ((x==("__debug__":aj))=false) qB)(he:autoParam (Yz (e::es) X.env=(false,aM e X.env)::Yz es X.env) qA)(hpl:autoParam ((cN pos (Yz es X.env)).any (·.1)=false) qA):PE X (.Call (.Name x p) (e::es) [] pos) (Sy r t):=by intro pins s σ H Q I h;refine Ak (yw I hg hm hv ?_ hn hdb);exact Rc (aJ (ha pos pins s σ H _ I h) λus s1 ⟨vs,H1,I1,r1,q1⟩=>hc pins s1 σ H1 vs us Q I1 r1 q1) he hpl
end
end _L2
namespace _HT
open PySem PyProof.Rows
section
variable {prog:bR} {w:bJ} {A:bW} {E:Yh->Yl->Prop} {s:Yl}
theorem Aa3{t b:Y4}{vs ws:List Yh}{Q:Yh->Yl->Prop}(ht:IsTup s.heap t vs.toArray)(hb:IsTup s.heap b ws.toArray)(hv:vs≠[])(h1:ws=[]->Q (.ref t) s)(h2:ws≠[]->Q (.ref s.heap.objs.size) {s with heap:=s.heap.push {cls:=.type "tuple",data:=.seq (vs++ws).toArray}})(hsz:vs.length+ws.length<=bG):ao (aB prog w) A (jb .Add (.ref t) (.ref b)) Q E s:=by
 obtain⟨⟨cls,dd,data,sl⟩,ho,hc,n,hd⟩:=id ht;obtain⟨⟨cls2,dd2,data2,sl2⟩,ho2,hc2,n2,hd2⟩:=id hb;simp only at hc hd hc2 hd2;subst hc hd hc2 hd2;have e:vs.toArray++ws.toArray=(vs++ws).toArray:=by simp
 by_cases hw:ws=[]
 .exact QG ⟨_,ho,rfl⟩ ⟨_,ho2,rfl⟩ Qw QD Rm Rj (Ri _ _)
   (tuple_addW1 t b vs.toArray ws.toArray n n2 dd dd2 sl sl2 (by simpa using hv) (by simp[hw])) ⟨ho,ho2,h1 hw⟩
 .refine QG ⟨_,ho,rfl⟩ ⟨_,ho2,rfl⟩ Qw QD Rm Rj (Ri _ _)
   (tuple_addW2 t b vs.toArray ws.toArray n n2 dd dd2 sl sl2 (by simpa using hv) (by simpa using hw) (by rw[Yq,Yq];exact hsz)) ⟨ho,ho2,?_⟩
  rw[e];exact h2 hw
noncomputable def aF(n d:Nat):Option Int->Nat
 |none=>d|some v=>if v<0 then(v+(n:Int)).toNat else jN v.toNat n
theorem SJ(n d:Nat):aF n d Ym=d:=rfl
theorem Gq(n d k:Nat):aF n d (Ya (k:Int))=jN k n:=by show(if(k:Int)<0 then((k:Int)+(n:Int)).toNat else jN (k:Int).toNat n)=jN k n;rw[if_neg (Rb.2 (FP _)),su]
theorem KQ(n d:Nat)(hd:d<=n)(o:Option Int):aF n d o<=n:=by
 cases o with
 |none=>exact hd|some v=>
  show(if v<0 then(v+(n:Int)).toNat else jN v.toNat n)<=n;by_cases hv:v<0
  .rw[if_pos hv];omega
  .rw[if_neg hv];exact QZ _ _
theorem ZoL(v:Int)(n d:Nat):(if v<0 then max (v+(n:Int)) 0 else jN v (n:Int))=((aF n d (Ya v):Nat):Int):=by
 show(if v<0 then max (v+(n:Int)) 0 else jN v (n:Int))=(((if v<0 then(v+(n:Int)).toNat else jN v.toNat n):Nat):Int);by_cases hv:v<0
 .simp only[if_pos hv];exact clA _
 .simp only[if_neg hv];exact clB _ _ hv
theorem ZnN(lo hi:Option Int)(n:Nat):Rv lo hi 1 (n:Int)=(((aF n 0 lo:Nat):Int),((aF n n hi:Nat):Int)):=by
 have h1:¬((1:Int)<0):=by decide
 unfold Rv;simp only[h1,if_false];refine Prod.ext ?_ ?_
 .cases lo with
  |none=>rfl|some v=>exact ZoL v n 0
 .cases hi with
  |none=>rfl|some v=>exact ZoL v n n
theorem Zoa(i j:Nat):J9 (i:Int) (j:Int) 1=j-i:=by
 unfold J9;have h1:(1:Int)>0:=by decide
 simp only[h1,if_true,Int.ediv_one];split <;>omega
theorem Zj5{v:Yh}{o:Option Int}{Q:Option Int->Yl->Prop}(p:IsPart v o)(h:Q o s):ao (aB prog w) A (Builtin.Slice.slicePartIndex v) Q E s:=by
 cases p with
 |none=>exact slicePart_none h|int i t=>exact slicePart_int h
theorem Xp{sl:Y4}{vl vu:Yh}{lo hi:Option Int}{n:Nat}{Q:Int×Int×Nat->Yl->Prop}(hs:s.heap.IsSliceOf sl vl vu .none)(pl:IsPart vl lo)(pu:IsPart vu hi)(h:Q (((aF n 0 lo:Nat):Int),1,aF n n hi-aF n 0 lo) s):ao (aB prog w) A (Ygi (.ref sl) (pure (n:Int))) Q E s:=by obtain⟨os,hos,hcs,hds⟩:=id hs;unfold Ygi Builtin.Slice.sliceFields;refine Yg (Yg (uh hos hds (x:=vl) rfl (Yg (uh hos hds (x:=vu) rfl (Yg (uh hos hds (x:=.none) rfl (Yv ?_)))))));refine Yg (slicePart_none ?_);show ao _ _ (if((1:Int)==0)=true then _ else _) _ _ s;rw[if_neg (by decide)];refine Yg (Zj5 pl (Yg (Zj5 pu (Yg (Yv ?_)))));show ao _ _ (match Rv lo hi 1 (n:Int)with|(lo,hi)=>pure (lo,(1:Int),J9 lo hi 1)) _ _ s;rw[ZnN lo hi n];show ao _ _ (pure (((aF n 0 lo:Nat):Int),(1:Int),J9 ((aF n 0 lo:Nat):Int) ((aF n n hi:Nat):Int) 1)) _ _ s;rw[Zoa];exact Yv h
theorem ZrS(xs:Array Yh)(i k:Nat):((iC k).filterMap λ(m:Nat)=>xs[((i:Int)+(m:Int)*1).toNat]?).toArray=((xs.toList.drop i).take k).toArray:=by
 have e:(λ(m:Nat)=>xs[((i:Int)+(m:Int)*1).toNat]?)=λm=>xs[i+m]?:=by
  funext m;have:((i:Int)+(m:Int)*1).toNat=i+m:=by omega
  rw[this]
 rw[e];have:=pick_run xs i k;rw[Yka]at this;have e2:((λx=>xs[x]?) ∘ λx=>i+x)=λm=>xs[i+m]?:=rfl;rw[e2]at this;rw[this]
theorem Aad{t sl:Y4}{items:Array Yh}{vl vu:Yh}{lo hi:Option Int}{Q:Yh->Yl->Prop}(ht:IsTup s.heap t items)(hs:s.heap.IsSliceOf sl vl vu .none)(pl:IsPart vl lo)(pu:IsPart vu hi)(hw:¬(aF items.size 0 lo=0/\aF items.size items.size hi=items.size))(h:Q (.ref s.heap.objs.size) {s with heap:=s.heap.push {cls:=.type "tuple",data:=.seq ((items.toList.drop (aF items.size 0 lo)).take (aF items.size items.size hi-aF items.size 0 lo)).toArray}})(hsz:items.size<=bG):ao (aB prog w) A (qH (.ref t) (.ref sl)) Q E s:=by
 have IV:sizeOk (.seq ((items.toList.drop (aF items.size 0 lo)).take (aF items.size items.size hi-aF items.size 0 lo)).toArray):=by show((items.toList.drop (aF items.size 0 lo)).take (aF items.size items.size hi-aF items.size 0 lo)).toArray.size<=bG;rw[Yq,Ah,Yln,Kc];exact lD 3 85606880155602945 T1 hsz (FJ _ _) (QZ _ _)
 have hj:aF items.size items.size hi<=items.size:=KQ _ _ (Yt _) hi;obtain⟨os,hos,hcs,hds⟩:=id hs;have hTs:s.TypeIs (.ref sl) "slice":=⟨os,hos,hcs⟩;unfold qH
 try with_reducible refine iD ?_
 first|refine Yg (Yv ?_)|skip
 refine Yg (Qv ht.typeIs (by decide) ?_);refine Yg (xW (name:=qL "__getitem__") ht.typeIs J5
  (vO J5 ht.typeIs Yjh ?_ (Ykb _ _)))
 show ao _ _ (Ygj (.ref t)>>=_) _ _ s;refine Yg (tupleItemsOf_ ht ?_);refine Yg (QH hTs ?_);rw[if_pos (by decide)];refine Yg (Xp hs pl pu ?_);have hno:¬((((aF items.size 0 lo:Nat):Int)==0&&(1:Int)==1&&(aF items.size items.size hi-aF items.size 0 lo)==items.size)=true):=by intro q;rw[Y6,Y6]at q;have q1:((aF items.size 0 lo:Nat):Int)=0:=eq_of_beq q.1.1;have q2:aF items.size items.size hi-aF items.size 0 lo=items.size:=eq_of_beq q.2;exact hw ⟨by exact Y1 (iN [_] [] 1 3759016097 T1 q1) (fC _),by exact Y1 hj (lC 2 2268279672881 T1 q2 (FJ _ _))⟩
 show ao _ _ (if(((aF items.size 0 lo:Nat):Int)==0&&(1:Int)==1&&(aF items.size items.size hi-aF items.size 0 lo)==items.size)=true then _ else _) _ _ s;rw[if_neg hno,ZrS]
 first
  |exact Yg (m:=Ka _) (ug (Yv ⟨_,rfl,Yv h⟩) IV)
  |exact Yg (m:=Ka _) (ug (Yg (Yv (Yv ⟨_,rfl,Yv h⟩))) IV)
  |exact Yg (Yg (m:=Ka _) (ug (Yv (Yv ⟨_,rfl,Yv h⟩)) IV))
  |exact Yg (Yg (m:=Ka _) (ug (Yv ⟨_,rfl,Yv h⟩) IV))
end
end _HT
namespace _L2
open PySem PySem.Spec PyProof.Rows
noncomputable abbrev TO:=St->Hp->(Option Int->Hp->Prop)->Prop
def PO(X:Cx)(e:Option Expr)(t:TO):Prop:=
 ∀(pins:List (Y4×aP)) (s:Yl) (σ:St) (H:Hp) (Q:Option Int->Hp->Prop),Inv X pins σ H s->t σ H Q ->
  ao (aB X.prog X.w) X.A (evalPart e X.env) (λu s'=>∃o H',Inv X pins σ H' s'/\IsPart u o/\Q o H') X.xe s
def Zt5:TO:=λ_ H Q=>Q Ym H
def Zxw(t:TE):TO:=λσ H Q=>t σ H λx H1=>∃i,x= .int i/\Q (Ya i) H1
section
variable {X:Cx} {e:Expr} {te:TE} {lo hi:Option Expr} {tl th:TO} {pos p2:aZ}
theorem Ztv:PO X Ym Zt5:=by intro pins s σ H Q I h;rw[evalPart_none];exact Yv ⟨Ym,H,I,.none,h⟩
theorem ZtN(h:PE X e te):PO X (Ya e) (Zxw te):=by intro pins s σ H Q I hw;rw[evalPart_some];refine aJ (h pins s σ H _ I hw) λu s1 ak=>?_;obtain⟨x,H1,I1,r1,q1⟩:=ak;obtain⟨i,rfl,q⟩:=q1;obtain⟨t,rfl⟩:=r1;exact⟨Ya i,H1,I1,.int i t,q⟩
def j_(X:Cx)(r:V->Option Int->Option Int->Hp->VK->Prop):Prop:=
 ∀(pins:List (Y4×aP)) (s:Yl) (σ:St) (H:Hp) (x:V) (v vl vu:Yh) (lo hi:Option Int) (sl:Y4) (Q:VK),Inv X pins σ H s->RelV x v->s.heap.IsSliceOf sl vl vu .none->IsPart vl lo->IsPart vu hi->r x lo hi H Q ->
  ∃T id,typeLookup (.type T) "__getitem__" =pure (Ya (.builtin id))/\s.TypeIs v T/\ao (aB X.prog X.w) X.A (qH v (.ref sl)) (EP X pins σ Q) X.xe s
theorem j_.or{r r':V->Option Int->Option Int->Hp->VK->Prop}(h:j_ X r)(h':j_ X r'):j_ X (λx lo hi H Q=>r x lo hi H Q\/r' x lo hi H Q):=by
 intro pins s σ H x v vl vu lo hi sl Q I rx hs pl pu q;rcases q with q|q
 .exact h pins s σ H x v vl vu lo hi sl Q I rx hs pl pu q
 .exact h' pins s σ H x v vl vu lo hi sl Q I rx hs pl pu q
def tSl(r:V->Option Int->Option Int->Hp->VK->Prop)(te:TE)(tl th:TO):TE:=λσ H Q=>te σ H λx H1=>tl σ H1 λl H2=>th σ H2 λu H3=>r x l u H3 Q
theorem ZrD{r:V->Option Int->Option Int->Hp->VK->Prop}(hr:j_ X r)(he:PE X e te)(hl:PO X lo tl)(hu:PO X hi th):PE X (.Subscript e (.Slice lo hi Ym p2) pos) (tSl r te tl th):=by intro pins s σ H Q I h;refine Rg (aJ (he pins s σ H _ I h) λv s1 ak=>?_);obtain⟨x,H1,I1,r1,q1⟩:=ak;refine wpAny_Slice (aJ (hl pins s1 σ H1 _ I1 q1) λvl s2 ⟨l,H2,I2,pl,q2⟩=>aJ (hu pins s2 σ H2 _ I2 q2) λvu s3 ak=>?_);obtain⟨u,H3,I3,pu,q3⟩:=ak;rw[evalPart_none];refine Yv ?_;have I4:Inv X pins σ H3 {s3 with heap:=s3.heap.push {cls:=.type "slice",data:=.fields #[vl,vu,.none]}}:=I3.kept (t':=s3.toks) λb ob q=>Yn _ q;obtain⟨T,id,hT,ht,hg⟩:=hr pins {s3 with heap:=s3.heap.push {cls:=.type "slice",data:=.fields #[vl,vu,.none]}} σ H3 x v vl vu l u s3.heap.objs.size Q I4 r1 (Heap.IsSliceOf.new ..) pl pu q3;show ao (aB X.prog X.w) X.A (Rf e (.Slice lo hi Ym p2) v (.ref s3.heap.objs.size)) (EP X pins σ Q) X.xe {s3 with heap:=s3.heap.push {cls:=.type "slice",data:=.fields #[vl,vu,.none]}};exact tail_any (ops:=[.ref s3.heap.objs.size,v]) ht hT hg (by with_unfolding_all rfl)
noncomputable def wA(xs:List V)(lo hi:Option Int):List V:=(xs.drop (_HT.aF xs.length 0 lo)).take (_HT.aF xs.length xs.length hi-_HT.aF xs.length 0 lo)
theorem Ziy(xs:List V)(lo hi:Option Int):(wA xs lo hi).length<=xs.length:=by unfold wA;rw[Ah,Yln];exact Yi (QZ _ _) (FJ _ _)
noncomputable def Zzk(K:Yb):V->Option Int->Option Int->Hp->VK->Prop:=λx lo hi H Q=>∃a xs,x= .ref a/\cW K H a xs/\
 ¬(_HT.aF xs.length 0 lo=0/\_HT.aF xs.length xs.length hi=xs.length)/\∀p,H p=Ym->Q (.ref p) (upd H p (.tup (wA xs lo hi)))
theorem ZvD:j_ X (Zzk X.K):=by
 intro pins s σ H x v vl vu lo hi sl Q I rx hs pl pu h;obtain⟨a,xs,rfl,hx,hw,q⟩:=h;cases rx;obtain⟨its,r,ht,hz⟩:=I.tuple hx;have hlen:its.toArray.size=xs.length:=by rw[Yq];exact r.length.symm
 refine⟨"tuple",_,PyProof.Rows.slot_tuple_getitem.lookup,ht.typeIs,?_⟩;refine _HT.Aad ht hs pl pu (by rw[hlen];exact hw) ?_ (by rw[hlen];exact hz);rw[hlen];refine⟨.ref s.heap.objs.size,_,I.laid (t':=s.toks) (o:=.tup (wA xs lo hi)) (λb ob q=>Yn _ q) (Yt _) ?_,rfl,q _ (I.hok.fresh (Yt _))⟩;exact⟨Yi (Ziy xs lo hi) hz,_,(r.drop (_HT.aF xs.length 0 lo)).take (_HT.aF xs.length xs.length hi-_HT.aF xs.length 0 lo),sG.new _ _⟩
def Zxx(K:Yb):R2:=λx y H Q=>∃a b xs ys,x= .ref a/\y= .ref b/\cW K H a xs/\cW K H b ys/\xs≠[]/\xs.length+ys.length<=bG/\
 (ys=[]->Q (.ref a) H)/\(ys≠[]->∀p,H p=Ym->Q (.ref p) (upd H p (.tup (xs++ys))))
theorem Vals.O9{xs:List V}{us:List Yh}(r:Vals xs us):us=[]↔xs=[]:=by
 cases r with
 |nil=>simp|cons _ _=>simp
theorem Ztr:aO X (jb .Add) (Zxx X.K):=by intro pins s σ H x y v u Q I rx ry h;obtain⟨a,b,xs,ys,rfl,rfl,ha,hb,hx,hz,q1,q2⟩:=h;cases rx;cases ry;obtain⟨its,r1,p1,_⟩:=I.tuple ha;obtain⟨its2,r2,p2,_⟩:=I.tuple hb;refine _HT.Aa3 p1 p2 (λz=>hx (r1.O9.mp z)) (λz=>⟨.ref a,H,I,rfl,q1 (r2.O9.mp z)⟩) (λz=>?_) (by rw[←r1.length,←r2.length];exact hz);refine⟨.ref s.heap.objs.size,_,I.laid (t':=s.toks) (o:=.tup (xs++ys)) (λb ob q=>Yn _ q) (Yt _) ?_,rfl,q2 (λw=>z (r2.O9.mpr w)) _ (I.hok.fresh (Yt _))⟩;exact⟨by rw[Yf];exact hz,_,r1.append r2,sG.new _ _⟩
end
end _L2
namespace _L2
open PySem PySem.Spec PyProof.Rows
noncomputable def Bt(n:Nat)(i:Int):Option Nat:=if 0<=i then(if i<n then Ya i.toNat else Ym)else if -(n:Int)<=i then Ya (i+n).toNat else Ym
noncomputable def yD{α:Type}(xs:List α)(i:Int):Option α:=(Bt xs.length i).bind λj=>xs[j]?
theorem SM{n:Nat}{i:Int}{j:Nat}(h:Bt n i=Ya j):QT i n=Ya j/\j<n/\ -(n:Int)<=i/\i<n:=by
 unfold Bt at h;by_cases h0:0<=i
 .rw[if_pos h0]at h;by_cases h1:i<n
  .rw[if_pos h1]at h;have e:i.toNat=j:=Y2 h;exact⟨by rw[QK h0 h1,e],by exact iN [_,_,_] [_] 3 0x211008a1280911031 T1 e h1 (nU h0),by exact iN [_] [_] 1 144182913 T1 h0,h1⟩
  .rw[if_neg h1]at h;cases h
 .rw[if_neg h0]at h;by_cases h1:-(n:Int)<=i
  .rw[if_pos h1]at h;have e:(i+n).toNat=j:=Y2 h;exact⟨by rw[QJ (by exact Be.1 h0) h1,e],by exact iN [_,_,_] [_] 3 0x211280c08a10ec11031 T1 e h0 (nU (iN [_] [_] 1 8851524979073 T1 h1)),h1,by exact iN [_] [_] 1 134811329 T1 h0⟩
  .rw[if_neg h1]at h;cases h
theorem SN{α:Type}{xs:List α}{i:Int}{v:α}(h:yD xs i=Ya v):∃j,QT i xs.length=Ya j/\xs[j]?=Ya v/\j<xs.length/\ -(xs.length:Int)<=i/\i<xs.length:=by
 unfold yD at h;cases e:Bt xs.length i with
 |none=>rw[e]at h;cases h|some j=>rw[e]at h;obtain⟨h1,h2,h3,h4⟩:=SM e;exact⟨j,h1,h,h2,h3,h4⟩
def Zpe(b:Expr):Prop:=∀o i,JB b false o i=operate [o,i] (qH o i)
def mQ(X:Cx)(r:R2):Prop:=
 ∀(value slice:Expr) (pins:List (Y4×aP)) (s:Yl) (σ:St) (H:Hp) (x y:V) (v u:Yh) (Q:VK),Inv X pins σ H s->RelV x v->RelV y u->r x y H Q ->
  JB slice false v u=operate [v,u] (qH v u)->ao (aB X.prog X.w) X.A (Rf value slice v u) (EP X pins σ Q) X.xe s
def k_(X:Cx)(id:String)(r:V->List V->Hp->VK->Prop):Prop:=
 ∀(pins:List (Y4×aP)) (s:Yl) (σ:St) (H:Hp) (x:V) (xs:List V) (v:Yh) (us:List Yh) (Q:VK),Inv X pins σ H s->RelV x v->Vals xs us->r x xs H Q ->
  ao (aB X.prog X.w) X.A (call (.builtin id) (v::us)) (EP X pins σ Q) X.xe s
section
variable {X:Cx} {a b:Expr} {ta tb:TE} {pos:aZ}
theorem mQ.or{r r':R2}(h:mQ X r)(h':mQ X r'):mQ X (λx y H Q=>r x y H Q\/r' x y H Q):=by
 intro value slice pins s σ H x y v u Q I rx ry q hs;rcases q with q|q
 .exact h value slice pins s σ H x y v u Q I rx ry q hs
 .exact h' value slice pins s σ H x y v u Q I rx ry q hs
theorem ZxI{r:R2}(hr:mQ X r)(ha:PE X a ta)(hb:PE X b tb)(hs:Zpe b):PE X (.Subscript a b pos) (Bq r ta tb):=by intro pins s σ H Q I h;exact Rg (Sg ha hb I h λv u s2 x y H2 I2 rx ry q=>hr a b pins s2 σ H2 x y v u Q I2 rx ry q (hs _ _))
def Zx6(K:Yb):R2:=λx y H Q=>∃p xs i v,x= .ref p/\y= .int i/\bM K H p xs/\yD xs i=Ya v/\Q v H
def Zxi(K:Yb):R2:=λx y H Q=>∃p xs i v,x= .ref p/\y= .int i/\cW K H p xs/\yD xs i=Ya v/\Q v H
def Zxm:R2:=λx y H Q=>∃z i c,x= .str z/\y= .int i/\z.length<=bG/\yD z.cps.toList i=Ya c/\Q (.str ⟨#[c]⟩) H
theorem Ztx:mQ X (Zx6 X.K):=by
 intro value slice pins s σ H x y v u Q I rx ry h hs;obtain⟨p,xs,i,z,rfl,rfl,hq,he,q⟩:=h;cases rx;obtain⟨t,rfl⟩:=ry;obtain⟨its,r,pl,hz⟩:=I.list hq;obtain⟨j,h1,h2,h3,h4,h5⟩:=SN he;obtain⟨w,ew,lg⟩:=r.get h2;have hl:=r.length;have hn:=Gk;have fin:EP X pins σ Q w s:=⟨z,H,I,lg,q⟩;by_cases h0:0<=i
 .have hj:i.toNat=j:=by
   rw[QK h0 h5]at h1;exact Y2 h1
  exact item_listR pl.isList h0 (by omega) (by rw[hj];simpa using ew) fin hs
 .have hj:(i+(its.toArray.size:Int)).toNat=j:=by
   rw[QJ (by exact Be.1 h0) h4]at h1;rw[Yq,←hl];exact Y2 h1
  exact Yhz (x:=w) pl.isList.typeIs slot_list_getitem.lookup
   (wpAny_getItem_list_neg (Q:=λr s'=>r=w/\EP X pins σ Q r s') pl.isList (by exact Be.1 h0) (by rw[Yq]<;>exact iN [_,_] [_] 2 6922527515414561 T1 hl h4) (by omega) (by rw[hj];simpa using ew) ⟨rfl,fin⟩) hs
theorem Zv7:mQ X (Zxi X.K):=by
 intro value slice pins s σ H x y v u Q I rx ry h hs;obtain⟨p,xs,i,z,rfl,rfl,hq,he,q⟩:=h;cases rx;obtain⟨t,rfl⟩:=ry;obtain⟨its,r,pl,hz⟩:=I.tuple hq;obtain⟨j,h1,h2,h3,h4,h5⟩:=SN he;obtain⟨w,ew,lg⟩:=r.get h2;have hl:=r.length;have hn:=Gk;have fin:EP X pins σ Q w s:=⟨z,H,I,lg,q⟩;exact Yhz (x:=w) pl.typeIs slot_tuple_getitem.lookup
  (getItem_tuple (j:=j) (Q:=λr s'=>r=w/\EP X pins σ Q r s') pl (by omega) (by omega) (by rw[Yq,←hl];exact h1) (by simpa using ew) ⟨rfl,fin⟩) hs
theorem ZvW:mQ X Zxm:=by
 intro value slice pins s σ H x y v u Q I rx ry h hs;obtain⟨z,i,c,rfl,rfl,hz,he,q⟩:=h;obtain⟨t,rfl⟩:=rx;obtain⟨t',rfl⟩:=ry;obtain⟨j,h1,h2,h3,h4,h5⟩:=SN he;have hl:z.cps.toList.length=z.length:=by simp[mK]
 rw[hl]at h1 h4 h5;have hn:=Gk;exact tail_any (yd s z t) slot_str_getitem.lookup (getItem_str (c:=c) (by have e1:decide (i< -(2^63:Int))=false:=decide_eq_false (by omega);have e2:decide (i>=2^63)=false:=decide_eq_false (by omega);rw[e1,e2,JZ]) (by rw[h1];simpa using h2) ⟨.str ⟨#[c]⟩,H,I.tok _,⟨_,rfl⟩,q⟩) hs
def rIx(K:Yb):R2:=λx y H Q=>Zx6 K x y H Q\/Zxi K x y H Q\/Zxm x y H Q
theorem Zwx:mQ X (rIx X.K):=Ztx.or (Zv7.or ZvW)
theorem ZnH(its:List Yh)(n j:Nat)(u:Yh):yp (·.setIfInBounds j u) {cls:=.type "list",data:=.seq its.toArray n}={cls:=.type "list",data:=.seq (its.set j u).toArray n}:=by simp[yp]
theorem Inv.lst{pins:List (Y4×aP)}{σ:St}{H:Hp}{s:Yl}{p:Y4}{xs:List V}(I:Inv X pins σ H s)(h:H p=Ya (.lst xs)):
  ∃(its:List Yh) (n:Nat),Vals xs its/\s.heap.get? p=Ya {cls:=.type "list",data:=.seq its.toArray n}/\xs.length<=bG:=by
 obtain⟨z,its,n,r,e⟩:=I.hok p _ h;exact⟨its,n,r,e,z⟩
theorem Inv.Abf{pins:List (Y4×aP)}{σ:St}{H:Hp}{s:Yl}{p:Y4}{xs ys:List V}{its its':List Yh}{n n':Nat}{f:aP->aP}(I:Inv X pins σ H s)(h:H p=Ya (.lst xs))(ho:s.heap.get? p=Ya {cls:=.type "list",data:=.seq its.toArray n})(hf:f {cls:=.type "list",data:=.seq its.toArray n}={cls:=.type "list",data:=.seq its'.toArray n'})(r:Vals ys its')(hz:ys.length<=bG)(t:Nat):
  Inv X pins σ (upd H p (.lst ys)) {s with heap:=s.heap.update p f,toks:=t}:=by
 have e:(s.heap.update p f).get? p=Ya {cls:=.type "list",data:=.seq its'.toArray n'}:=by rw[JW f ho (by rw[hf]<;>rfl),hf]
 refine I.write (x:=p) (e:=p) (by rw[h];trivial) (.inl rfl) (λb u hb q=>(uq _ _ (dw hb)).trans q) ⟨_,e⟩ ?_;exact⟨hz,its',n',r,e⟩
noncomputable def Zxo:V->V->V->Hp->(Hp->Prop)->Prop:=λo i v H Q=>∃p xs k j,o= .ref p/\i= .int k/\H p=Ya (.lst xs)/\Bt xs.length k=Ya j/\Q (upd H p (.lst (xs.set j v)))
theorem set_list:Zya X Zxo:=by
 intro pins s σ H o i v ov iv u Q I ro ri rv h;obtain⟨p,xs,k,j,rfl,rfl,hp,hj,q⟩:=h;cases ro;obtain⟨t,rfl⟩:=ri;obtain⟨its,n,r,ho,hz⟩:=I.lst hp;obtain⟨h1,h2,h3,h4⟩:=SM hj;have hl:=r.length;have hn:=Gk;have I':Inv X pins σ (upd H p (.lst (xs.set j v))) {s with heap:=s.heap.update p (yp (·.setIfInBounds j u))}:=I.Abf hp ho (ZnH its n j u) (r.set rv j) (by rw[t_];exact hz) s.toks;by_cases h0:0<=k
 .have hk:k.toNat=j:=by
   rw[QK h0 h4]at h1;exact Y2 h1
  exact PySem.W.ki_setAt ho h0 (by omega) (by rw[Yq,←hl];exact h4) (by rw[hk];exact⟨_,I',q⟩)
 .have hk:(k+(its.toArray.size:Int)).toNat=j:=by
   rw[QJ (by exact Be.1 h0) h3]at h1;rw[Yq,←hl];exact Y2 h1
  exact PySem.W.ki_setBack ho (by exact Be.1 h0) (by rw[Yq,←hl];exact h3) (by omega) (by rw[hk];exact⟨_,I',q⟩)
theorem ZlP(lo hi:Option Int)(n:Nat):(x_ lo hi Ym n).1=((_HT.aF n 0 lo:Nat):Int)/\(x_ lo hi Ym n).2.1=((_HT.aF n n hi:Nat):Int)/\(x_ lo hi Ym n).2.2=1:=by
 refine⟨?_,?_,rfl⟩
 .cases lo with
  |none=>simp[x_,_HT.aF]|some i=>
   simp only[x_,_HT.aF,ZR,show(1:Int)>0 by decide,if_true];by_cases h:i<0
   .simp only[h,if_true]<;>exact RP _ _ h
   .simp only[h,if_false]<;>exact RQ _ _ h
 .cases hi with
  |none=>simp[x_,_HT.aF]|some i=>
   simp only[x_,_HT.aF,ZR,show(1:Int)>0 by decide,if_true];by_cases h:i<0
   .simp only[h,if_true]<;>exact RP _ _ h
   .simp only[h,if_false]<;>exact RQ _ _ h
theorem Zkf(its:List Yh)(lo hi:Option Int):slicePick its.toArray lo hi Ym=((its.drop (_HT.aF its.length 0 lo)).take (_HT.aF its.length its.length hi-_HT.aF its.length 0 lo)).toArray:=by obtain⟨h1,h2,h3⟩:=ZlP lo hi its.toArray.size;unfold slicePick;rw[h1,h2,h3];simp only[sliceRange_one,pick_run,Yq]<;>rfl
noncomputable def Zy9(K:Yb):V->Option Int->Option Int->Hp->VK->Prop:=λx lo hi H Q=>∃a xs,x= .ref a/\bM K H a xs/\∀p,H p=Ym->Q (.ref p) (upd H p (.lst (wA xs lo hi)))
theorem Zs5:j_ X (Zy9 X.K):=by intro pins s σ H x v vl vu lo hi sl Q I rx hs pl pu h;obtain⟨a,xs,rfl,hx,q⟩:=h;cases rx;obtain⟨its,r,ht,hz⟩:=I.list hx;have hlen:=r.length;refine⟨"list",_,slot_list_getitem.lookup,ht.isList.typeIs,?_⟩;refine wpAny_getItem_list_slice ht.isList hs pl pu .none (by simp) ?_ (by rw[Yq]<;>exact lC 2 2268279672881 T1 hlen hz);rw[Zkf,←hlen];refine⟨.ref s.heap.objs.size,_,I.laid (t':=s.toks) (o:=.lst (wA xs lo hi)) (λb ob q=>Yn _ q) (Yt _) ?_,rfl,q _ (I.hok.fresh (Yt _))⟩;exact⟨Yi (Ziy xs lo hi) hz,_,0,(r.drop (_HT.aF xs.length 0 lo)).take (_HT.aF xs.length xs.length hi-_HT.aF xs.length 0 lo),Y5 _ rfl⟩
noncomputable def sJ:V->Bool
 | .non=>true|.bl _=>true|.int _=>true|.str _=>true
 |_=>false
noncomputable def uF:V->V->Bool
 | .non,.non=>true|.bl a,.bl b=>a==b|.bl a,.int b=>(if a then 1 else 0)==b|.int a,.bl b=>a==(if b then 1 else 0)
 | .int a,.int b=>a==b|.str a,.str b=>a==b|_,_=>false
theorem ZvN{A:bW}{s:Yl}{y x:V}{u v:Yh}(ry:RelV y u)(rx:RelV x v)(fy:sJ y=true)(fx:sJ x=true):sy A s u v (uF y x):=by
 cases y with
 |non=>
  cases ry
  cases x with
  |non=>cases rx;exact RB _|bl b=>cases rx;exact Yi4 b|int b=>obtain⟨t,rfl⟩:=rx;exact Yjj b t|str b=>obtain⟨t,rfl⟩:=rx;exact Yjk b t
  |_=>exact absurd (show false=true from fx) mJ
 |bl a=>
  cases ry
  cases x with
  |non=>cases rx;exact Yi5 a|bl b=>cases rx;exact Yi6 a b|int b=>obtain⟨t,rfl⟩:=rx;exact Yjl a b t|str b=>obtain⟨t,rfl⟩:=rx;exact Yjm a b t
  |_=>exact absurd (show false=true from fx) mJ
 |int a=>
  obtain⟨t',rfl⟩:=ry;cases x with
  |non=>cases rx;exact Yjn a t'|bl b=>cases rx;exact Yjo a t' b|int b=>obtain⟨t,rfl⟩:=rx;exact Ykd a t' b t|str b=>obtain⟨t,rfl⟩:=rx;exact Rz a t' b t
  |_=>exact absurd (show false=true from fx) mJ
 |str a=>
  obtain⟨t',rfl⟩:=ry;cases x with
  |non=>cases rx;exact Yjp a t'|bl b=>cases rx;exact Yjq a t' b|int b=>obtain⟨t,rfl⟩:=rx;exact Kd a t' b t|str b=>obtain⟨t,rfl⟩:=rx;exact Yke a t' b t
  |_=>exact absurd (show false=true from fx) mJ
 |_=>exact absurd (show false=true from fy) mJ
noncomputable def mR(x:V)(u:Yh):Bool:=match u with
 | .none=>uF .non x|.bool b=>uF (.bl b) x|.int i _=>uF (.int i) x|.str z _=>uF (.str z) x
 |_=>false
theorem Zra{x y:V}{u:Yh}(r:RelV y u)(f:sJ y=true):mR x u=uF y x:=by
 cases y with
 |non=>cases r;rfl|bl b=>cases r;rfl|int i=>obtain⟨t,rfl⟩:=r;rfl|str z=>obtain⟨t,rfl⟩:=r;rfl
 |_=>exact absurd (show false=true from f) mJ
theorem Gr{x:V}:∀{xs:List V} {us:List Yh},Vals xs us->xs.all sJ=true->us.any (mR x)=xs.any λy=>uF y x
 |_,_,.nil,_=>rfl|y::xs,u::us,.cons r t,f=>by rw[kW,Y6]at f;rw[lR,lR,Zra r f.1,Gr t f.2]
theorem Gs{A:bW}{s:Yl}{x:V}{v:Yh}(rx:RelV x v)(fx:sJ x=true):∀{xs:List V} {us:List Yh},Vals xs us->xs.all sJ=true->∀u∈us,sy A s u v (mR x u)
 |_,_,.nil,_=>λu hu=>by cases hu|y::xs,u::us,.cons r t,f=>λu' hu=>by
  rw[kW,Y6]at f;rcases Yo.mp hu with rfl|hu
  .rw[Zra r f.1];exact ZvN r rx f.1 fx
  .exact Gs rx fx t f.2 u' hu
noncomputable def inV(x:V)(xs:List V):Bool:=xs.any λy=>uF y x
def SQ(K:Yb)(neg:Bool):R2:=λx y H Q=>∃p xs,y= .ref p/\(bM K H p xs\/cW K H p xs)/\sJ x=true/\xs.all sJ=true/\Q (.bl (if neg then !inV x xs else inV x xs)) H
theorem Zqh:aO X (d7 .In) (SQ X.K false):=by
 intro pins s σ H x y v u Q I rx ry h;obtain⟨p,xs,rfl,hq,fx,fs,q⟩:=h;cases ry;rcases hq with hq|hq
 .obtain⟨its,r,pl,hz⟩:=I.list hq;refine Yl4 (mR x) pl.isList (λw hw=>Gs rx fx r fs w (by simpa using hw)) ⟨.bl _,H,I,rfl,?_⟩;rw[show its.toArray.any (mR x)=its.any (mR x)by simp,Gr r fs];exact q
 .obtain⟨its,r,pl,hz⟩:=I.tuple hq;refine SeqAt.in_tupleAt (mR x) pl (λw hw=>Gs rx fx r fs w (by simpa using hw)) ⟨.bl _,H,I,rfl,?_⟩;rw[show its.toArray.any (mR x)=its.any (mR x)by simp,Gr r fs];exact q
theorem Zlh:aO X (d7 .NotIn) (SQ X.K true):=by
 intro pins s σ H x y v u Q I rx ry h;obtain⟨p,xs,rfl,hq,fx,fs,q⟩:=h;cases ry;rcases hq with hq|hq
 .obtain⟨its,r,pl,hz⟩:=I.list hq;refine Ykf (mR x) pl.isList (λw hw=>Gs rx fx r fs w (by simpa using hw)) ⟨.bl _,H,I,rfl,?_⟩;rw[show its.toArray.any (mR x)=its.any (mR x)by simp,Gr r fs];exact q
 .obtain⟨its,r,pl,hz⟩:=I.tuple hq;refine SeqAt.notIn_tupleAt (mR x) pl (λw hw=>Gs rx fx r fs w (by simpa using hw)) ⟨.bl _,H,I,rfl,?_⟩;rw[show its.toArray.any (mR x)=its.any (mR x)by simp,Gr r fs];exact q
theorem dB.or{f:Yh}{r r':List V->Hp->VK->Prop}(h:dB X f r)(h':dB X f r'):dB X f (λxs H Q=>r xs H Q\/r' xs H Q):=by
 intro pins s σ H xs us Q I rs q;rcases q with q|q
 .exact h pins s σ H xs us Q I rs q
 .exact h' pins s σ H xs us Q I rs q
theorem Zmb:dB X (.type "list") (λxs H Q=>∃p ys,xs=[.ref p]/\(bM X.K H p ys\/cW X.K H p ys)/\∀l,H l=Ym->Q (.ref l) (upd H l (.lst ys))):=by
 intro pins s σ H xs us Q I r h;obtain⟨p,ys,rfl,hq,q⟩:=h;obtain⟨u,rfl,rx⟩:=vals1 r;cases rx;have fin:∀(its:List Yh),Vals ys its->ys.length<=bG->∀(h':aR) (c':Nat),(∀b o',s.heap.get? b=Ya o'->h'.get? b=Ya o') ->
   h'.get? s.heap.objs.size=Ya {cls:=.type "list",dict:=Ym,data:=.seq its.toArray c',slots:=#[]}->EP X pins σ Q (.ref s.heap.objs.size) {s with heap:=h'}:=λits r' hz h' c' kp e=>
  ⟨.ref s.heap.objs.size,_,I.laid (t':=s.toks) kp (Yt _) (show gZ X.prog X.w _ h' _ (.lst ys)from⟨hz,its,c',r',e⟩),rfl,q _ (I.hok.fresh (Yt _))⟩
 rcases hq with hq|hq
 .obtain⟨its,r',pl,hz⟩:=I.list hq;have hlen:=r'.length;obtain⟨o,ho,hc,n,hd⟩:=pl.isList;exact call_list_seq p (.inl rfl) ho hc hd (λh' c' kp e=>fin its r' hz h' c' kp e) (by simp only[Yq]<;>exact lC 2 2268279672881 T1 hlen hz)
 .obtain⟨its,r',pl,hz⟩:=I.tuple hq;have hlen:=r'.length;obtain⟨o,ho,hc,n,hd⟩:=pl;exact call_list_seq p (.inr rfl) ho hc hd (λh' c' kp e=>fin its r' hz h' c' kp e) (by simp only[Yq]<;>exact lC 2 2268279672881 T1 hlen hz)
theorem Zkp:dB X (.type "tuple") (λxs H Q=>∃p ys,xs=[.ref p]/\((bM X.K H p ys/\∀l,H l=Ym->Q (.ref l) (upd H l (.tup ys)))\/(cW X.K H p ys/\Q (.ref p) H))):=by
 intro pins s σ H xs us Q I r h;obtain⟨p,ys,rfl,h⟩:=h;obtain⟨u,rfl,rx⟩:=vals1 r;cases rx;rcases h with⟨hq,q⟩|⟨hq,q⟩
 .obtain⟨its,r',pl,hz⟩:=I.list hq;have hlen:=r'.length;refine call_tuple_list pl.isList (λh' kp=>?_) (by simp only[Yq]<;>exact lC 2 2268279672881 T1 hlen hz);have I1:Inv X pins σ H {s with heap:=h'}:=I.kept (t':=s.toks) kp;have I2:Inv X pins σ (upd H h'.objs.size (.tup ys)) {s with heap:=h'.push {cls:=.type "tuple",data:=.seq its.toArray}}:=
   I1.laid (t':=s.toks) (λb o e=>Yn _ e) (Yt _) (show gZ X.prog X.w _ _ _ (.tup ys)from⟨hz,its,r',sG.new _ _⟩)
  exact⟨.ref h'.objs.size,_,I2,rfl,q _ (I1.hok.fresh (Yt _))⟩
 .obtain⟨its,r',pl,hz⟩:=I.tuple hq;exact call_tuple_same pl ⟨.ref p,H,I,rfl,q⟩
def yE(K:Yb)(T:String)(x:V)(H:Hp):Prop:=match x with
 | .str _=>T= "str"|.int _=>T= "int"|.ref p=>(T= "list" /\∃xs,bM K H p xs)\/(T= "tuple" /\∃o,K.lookup p=Ya o/\o.cls= .type "tuple" /\o.dict=Ym)\/
   (T= "dict" /\((∃kvs,H p=Ya (.dK kvs))\/∃kvs,H p=Ya (.dT kvs)))\/(T= "set" /\∃S n,H p=Ya (.set S n))
 |_=>False
theorem Zrd{pins:List (Y4×aP)}{σ:St}{H:Hp}{s:Yl}{T:String}{x:V}{v:Yh}(I:Inv X pins σ H s)(r:RelV x v)(ty:yE X.K T x H):
  s.TypeIs v T/\∀a,v= .ref a->∃ob,s.heap.get? a=Ya ob/\ob.dict=Ym:=by
 cases x with
 |str z=>obtain⟨t,rfl⟩:=r;cases(show T= "str" from ty);exact⟨yd s z t,λ_ e=>nomatch e⟩|int i=>obtain⟨t,rfl⟩:=r;cases(show T= "int" from ty);exact⟨QQ s i t,λ_ e=>nomatch e⟩|ref p=>
  cases r
  rcases ty with⟨rfl,xs,hq⟩|⟨rfl,o,hk,hc,hd⟩|⟨rfl,hk⟩|⟨rfl,S,n,hk⟩
  .obtain⟨its,_,pl,_⟩:=I.list hq;refine⟨pl.isList.typeIs,λa e=>?_⟩;cases e;obtain⟨o,n,e,c,hd,_⟩:=pl;exact⟨o,e,hd⟩
  .refine⟨⟨o,I.fG p o hk,hc⟩,λa e=>?_⟩;cases e;exact⟨o,I.fG _ o hk,hd⟩
  .have z:∃o,s.heap.get? p=Ya o/\o.ExactDict:=by
    rcases hk with⟨kvs,hk⟩|⟨kvs,hk⟩
    .obtain⟨_,_,_,_,o,_,_,e,ex,_⟩:=I.hok p _ hk;exact⟨o,e,ex⟩
    .obtain⟨_,_,_,_,o,_,_,e,ex,_⟩:=I.hok p _ hk;exact⟨o,e,ex⟩
   obtain⟨o,e,ex⟩:=z;refine⟨⟨o,e,ex.1⟩,λa e2=>?_⟩;cases e2;exact⟨o,e,ex.2.1⟩
  .obtain⟨o,_,_,_,e,ex,_⟩:=I.hok p _ hk;refine⟨⟨o,e,ex.1⟩,λa e2=>?_⟩;cases e2;exact⟨o,e,ex.2.1⟩
 |_=>exact jM ty
def Zyc(K:Yb)(T:String)(r:V->List V->Hp->VK->Prop)(to:TE):TE:=λσ H Q=>to σ H λx H1=>yE K T x H1/\r x [] H1 Q
def tBM(K:Yb)(T:String)(r:V->List V->Hp->VK->Prop)(to:TE)(t:TA):TE:=λσ H Q=>to σ H λx H1=>yE K T x H1/\t σ H1 λxs H2=>r x xs H2 Q
variable {o e:Expr} {es:List Expr} {to:TE} {t:TA} {name:aj} {apos cpos:aZ} {T id:String} {r:V->List V->Hp->VK->Prop}
theorem Zvu(pa:PlainAttrs T)(slot:Slot T name id)(hty:typeOf (.builtin id)=pure (.type "method_descriptor"))(hm:k_ X id r)(ho:PE X o to)(hbase:autoParam (nQ o name X.env (aM o X.env)=aM o X.env) qA)(hline:autoParam ((apos.endLine==cpos.line)=true) qA):PE X (.Call (.Attribute o name apos) [] [] cpos) (Zyc X.K T r to):=by intro pins s σ H Q I h;refine wpAny_Call_method0_late hbase hline (aJ (ho pins s σ H _ I h) λv s1 ak=>?_);obtain⟨x,H1,I1,r1,ty,q1⟩:=ak;obtain⟨h1,h2⟩:=Zrd I1 r1 ty;exact⟨T,id,pa,slot,hty,h1,h2,RD rfl (PySem.evalArgs_none (hm pins s1 σ H1 x [] v [] Q I1 r1 .nil q1))⟩
theorem Bu(pa:PlainAttrs T)(slot:Slot T name id)(hty:typeOf (.builtin id)=pure (.type "method_descriptor"))(hm:k_ X id r)(ho:PE X o to)(ha:PA X (e::es) t)(hbase:autoParam (nQ o name X.env (aM o X.env)=aM o X.env) qA)(hfew:((cN cpos (Yz (e::es) X.env)).all (λx=>!x.1)&&(jc cpos (i_ [] X.env)).all (λx=>x.1.isSome)
   &&decide ((e::es).length+([]:List Keyword).length+(if([]:List Keyword).isEmpty then 0 else 1)<30))=true:=by rfl)(hline:autoParam ((apos.endLine==cpos.line)=true) qA)(hs:autoParam (Yz (e::es) X.env=(false,aM e X.env)::Yz es X.env) qA)(hplain:autoParam ((cN cpos (Yz es X.env)).any (·.1)=false) qA):
  PE X (.Call (.Attribute o name apos) (e::es) [] cpos) (tBM X.K T r to t):=by
 intro pins s σ H Q I h;refine wpAny_Call_method_late hbase hfew hline rfl (aJ (ho pins s σ H _ I h) λv s1 ak=>?_);obtain⟨x,H1,I1,r1,ty,q1⟩:=ak;obtain⟨h1,h2⟩:=Zrd I1 r1 ty;refine⟨T,id,pa,slot,hty,h1,h2,?_⟩;have hA:=ha cpos pins s1 σ H1 _ I1 q1;rw[hs]at hA ⊢;refine RD (by show(false|| (cN cpos (Yz es X.env)).any (·.1))=false;rw[hplain]<;>rfl) (Yi7 ?_);exact aJ hA λus s2 ⟨vs,H2,I2,r2,q2⟩=>hm pins s2 σ H2 x vs v us Q I2 r1 r2 q2
/-xs.append(e),list.index on a module's tuple .. are k_ facts of 06m -/
end
end _L2
namespace _L2
open PySem PySem.Spec PyProof.Rows
def KR(X:Cx)(id:String)(r:V->List V->Hp->VK->Prop):Prop:=
 ∀(pins:List (Y4×aP)) (s:Yl) (σ:St) (H:Hp) (x:V) (xs:List V) (v:Yh) (us:List Yh) (Q:VK),Inv X pins σ H s->RelV x v->Vals xs us->r x xs H Q ->
  ao (aB X.prog X.w) X.A (call (.builtin id) (v::us)) (EP X pins σ Q) X.xe s
theorem Vals.one{x:V}{us:List Yh}(h:Vals [x] us):∃u,us=[u]/\RelV x u:=by
 cases h with
 |cons r h=>cases h;exact⟨_,rfl,r⟩
theorem Vals.two{x y:V}{us:List Yh}(h:Vals [x,y] us):∃u v,us=[u,v]/\RelV x u/\RelV y v:=by
 cases h with
 |cons r h=>obtain⟨v,rfl,q⟩:=Vals.one h;exact⟨_,v,rfl,r,q⟩
theorem Vals.zero:∀{us:List Yh},Vals [] us->us=[]
 |_,.nil=>rfl
variable{xs:List V}{us:List Yh}
theorem Vals.dropLast(h:Vals xs us):Vals xs.dropLast us.dropLast:=by
 induction h with
 |nil=>exact .nil|cons r t ih=>
  cases t with
  |nil=>exact .nil|cons q t'=>exact .cons r ih
theorem Vals.eraseIdx:∀{xs:List V} {us:List Yh} (i:Nat),Vals xs us->Vals (xs.eraseIdx i) (us.eraseIdx i)
 |_,_,_,.nil=>.nil|_,_,0,.cons _ t=>t|_,_,i+1,.cons r t=>.cons r (Vals.eraseIdx i t)
theorem Vals.reverse(h:Vals xs us):Vals xs.reverse us.reverse:=by
 induction h with
 |nil=>exact .nil|cons r t ih=>rw[vJ,vJ];exact Vals.append ih (.cons r .nil)
theorem Vals.rep(h:Vals xs us):∀k:Nat,Vals (Yr k xs).flatten (Yr k us).flatten
 |0=>.nil|k+1=>by rw[tZ,tZ,kJ,kJ];exact Vals.append h (Vals.rep h k)
theorem ZnF{α:Type}(l:List α):l.eraseIdx (l.length-1)=l.dropLast:=by
 induction l with
 |nil=>rfl|cons a r ih=>
  cases r with
  |nil=>rfl|cons b r=>
   have e:(a::b::r).length-1=((b::r).length-1)+1:=by have h1:(a::b::r).length=r.length+2:=rfl;have h2:(b::r).length=r.length+1:=rfl;exact Y1 (lE 4 0xa4c30a4c0012a3c2121b1c221a1c031 T1 h2 h1 (Y9 (lB 1 687760064561 T1 h1)) (gO _ _)) (lE 4 0x3a4c00a4c21a3c20121b1c231a1c021 T1 h2 h1 (gO _ _) (Y9 (lB 1 2694955057 T1 h2)))
   rw[e,List.eraseIdx_cons_succ,ih]
   all_goals rfl
theorem ZkC{α:Type}:∀(l:List α) (i:Nat),(l.eraseIdx i).length<=l.length
 |[],_=>Yt _|_::_,0=>v8 _|_::r,i+1=>pO (ZkC r i)
theorem foldl_rep(its:List Yh):∀(k:Nat) (acc:List Yh),
  Ju (λx1 x2=>x1++x2) acc.toArray (Yr k its.toArray)=(acc++(Yr k its).flatten).toArray
 |0,acc=>by simp|k+1,acc=>by
  have e:acc.toArray++its.toArray=(acc++its).toArray:=by simp
  have e2:(acc++its)++(Yr k its).flatten=acc++(Yr (k+1) its).flatten:=by rw[tZ,kJ,gM]
  rw[←e2,←foldl_rep its k (acc++its),←e,tZ,jG]
section
variable {X:Cx} {pins:List (Y4×aP)} {σ:St} {H:Hp} {s:Yl} {l b:Y4} {xs ys zs:List V}
theorem Inv.Ew{its its':List Yh}{n:Nat}{f:Array Yh->Array Yh}{t':Nat}(I:Inv X pins σ H s)(hH:H l=Ya (.lst xs))(e:s.heap.get? l=Ya {cls:=.type "list",data:=.seq its.toArray n})(hf:f its.toArray=its'.toArray)(hv:Vals ys its')(hz:ys.length<=bG):
  Inv X pins σ (upd H l (.lst ys)) {s with heap:=s.heap.update l (yp f),toks:=t'}:=by
 have q:=PySem.IsL.update e f;rw[hf]at q;refine I.write (x:=l) (e:=l) (by rw[hH];exact trivial) (.inl rfl) (λb' u hb hu=>(uq s.heap (yp f) (dw hb)).trans hu) ⟨_,q⟩ ?_;exact⟨hz,its',_,hv,q⟩
theorem Inv.XX{its:List Yh}{t':Nat}(I:Inv X pins σ H s)(hv:Vals ys its)(hz:ys.length<=bG):
  Inv X pins σ (upd H s.heap.objs.size (.lst ys)) {s with heap:=s.heap.push {cls:=.type "list",data:=.seq its.toArray},toks:=t'}:=
 I.laid (λ_ _ q=>Yn _ q) (Yt _) ⟨hz,its,0,hv,Y5 _ rfl⟩
theorem Inv.fresh(I:Inv X pins σ H s):H s.heap.objs.size=Ym:=I.hok.fresh (Yt _)
theorem Inv.tU(I:Inv X pins σ H s)(hH:H l=Ya (.lst xs)):xs.length<=bG/\∃(its:List Yh) (n:Nat),Vals xs its/\xs.length=its.length/\s.heap.get? l=Ya {cls:=.type "list",data:=.seq its.toArray n}:=by obtain⟨z,its,n,r,e⟩:=I.hok l _ hH;exact⟨z,its,n,r,r.length,e⟩
theorem SX{n:Nat}(h:n<=bG):Bf n=false:=by unfold Bf;exact decide_eq_false (by omega)
end
section
variable {X:Cx}
noncomputable def Zpd:V->List V->Hp->VK->Prop:=λx vs H Q=>∃l xs y,x= .ref l/\vs=[y]/\H l=Ya (.lst xs)/\xs.length<bG/\Q .non (upd H l (.lst (xs++[y])))
theorem S_:KR X "list.append" Zpd:=by intro pins s σ H x vs v us Q I rx rv h;obtain⟨l,xs,y,rfl,rfl,hH,hz,q⟩:=h;cases rx;obtain⟨u,rfl,ru⟩:=rv.one;obtain⟨z,its,n,r,hl,e⟩:=I.tU hH;refine qG F.slot_list_append ⟨_,e,rfl⟩ F.entry_list_append (F.args_list_append_2 _ _) (PySem.list_append l its.toArray n u (by rw[Yq];exact lC 2 2268279672881 T1 hl z)) ⟨e,?_⟩;refine⟨.non,_,I.Ew (its':=its++[u]) hH e (by simp) (r.append (.cons ru .nil)) ?_,rfl,q⟩;rw[Yf,jj];exact lB 1 6991908881 T1 hz
noncomputable def ZpI:V->List V->Hp->VK->Prop:=λx vs H Q=>∃l b xs zs,x= .ref l/\vs=[.ref b]/\H l=Ya (.lst xs)/\H b=Ya (.lst zs)/\xs.length+zs.length<=bG/\Q .non (upd H l (.lst (xs++zs)))
theorem ZpY:KR X "list.extend" ZpI:=by
 intro pins s σ H x vs v us Q I rx rv h;obtain⟨l,b,xs,zs,rfl,rfl,hH,hB,hz,q⟩:=h;cases rx;obtain⟨u,rfl,ru⟩:=rv.one;cases ru;obtain⟨z,its,n,r,hl,e⟩:=I.tU hH;obtain⟨z2,its2,n2,r2,hl2,e2⟩:=I.tU hB;have hsz:its.toArray.size+its2.toArray.size<=bG:=by rw[Yq,Yq];exact lE 3 0x413c0402c0132311031 T1 hl2 hl hz
 have Et:¬(!its.toArray.isEmpty&&Bf (its.toArray.size+its2.toArray.size))=true:=by rw[SX hsz,yj];exact mJ
 refine qG Ykg ⟨_,e,rfl⟩ Yjr (Yi8 _ _)
  (AutoSeq1.list_extend_list_list_0 l its.toArray n b its2.toArray n2 Et (by rw[Yq];exact lC 2 2268279672881 T1 hl z) (by exact lC 1 0xa2c10c0210c01 T1 hsz)) ⟨e,e2,?_⟩
 refine⟨.non,_,I.Ew (its':=its++its2) hH e (by simp) (r.append r2) ?_,rfl,q⟩;rw[Yf];exact hz
noncomputable def Zx5:V->List V->Hp->VK->Prop:=λx vs H Q=>∃l xs y,x= .ref l/\vs=[]/\H l=Ya (.lst xs)/\xs[xs.length-1]?=Ya y/\Q y (upd H l (.lst xs.dropLast))
theorem ZvI:KR X "list.pop" Zx5:=by
 intro pins s σ H x vs v us Q I rx rv h;obtain⟨l,xs,y,rfl,rfl,hH,hy,q⟩:=h;cases rx;have hus:=rv.zero;subst hus;obtain⟨z,its,n,r,hl,e⟩:=I.tU hH;obtain⟨u,hu,ru⟩:=r.get hy;have hy':its.toArray[its.toArray.size-1]?=Ya u:=by show its.toArray[its.length-1]?=Ya u;rw[←Ry,←hl];exact hu
 refine qG Yl5 ⟨_,e,rfl⟩ Ylp (F.args_list_pop_1 _) (MeetsSeq.list_pop_last l its.toArray n u hy' (by rw[Yq];exact lC 2 2268279672881 T1 hl z)) ⟨e,?_⟩;refine⟨y,_,I.Ew (its':=its.dropLast) hH e ?_ r.dropLast ?_,ru,q⟩
 .show its.toArray.eraseIdxIfInBounds (its.toArray.size-1)=its.dropLast.toArray;rw[Yq,Z6,ZnF]
 .rw[List.length_dropLast];exact Yi (FJ _ _) z
noncomputable def ZrT:V->List V->Hp->VK->Prop:=λx vs H Q=>∃l xs i k y,x= .ref l/\vs=[.int i]/\H l=Ya (.lst xs)/\ -(2^63)<=i/\i<2^63/\QT i xs.length=Ya k/\xs[k]?=Ya y/\Q y (upd H l (.lst (xs.eraseIdx k)))
theorem Zrg:KR X "list.pop" ZrT:=by
 intro pins s σ H x vs v us Q I rx rv h;obtain⟨l,xs,i,k,y,rfl,rfl,hH,h1,h2,hk,hy,q⟩:=h;cases rx;obtain⟨u,rfl,ru⟩:=rv.one;obtain⟨t,rfl⟩:=ru;obtain⟨z,its,n,r,hl,e⟩:=I.tU hH;obtain⟨w,hw,lg⟩:=r.get hy;refine qG Yl5 ⟨_,e,rfl⟩ Ylp (F.args_list_pop_2 _ _)
  (MeetsSeq.list_pop_at l its.toArray n i t k w (fitsIndex_both h1 h2) (by rw[Yq,←hl];exact hk) (by rw[←Ry];exact hw) (by rw[Yq];exact lC 2 2268279672881 T1 hl z)) ⟨e,?_⟩
 refine⟨y,_,I.Ew (its':=its.eraseIdx k) hH e ?_ (r.eraseIdx k) ?_,lg,q⟩
 .show its.toArray.eraseIdxIfInBounds k=(its.eraseIdx k).toArray;rw[Z6]
 .have:=ZkC xs k;exact Yi this z
def Zzl:R2:=λx y H Q=>∃l b xs zs,x= .ref l/\y= .ref b/\H l=Ya (.lst xs)/\H b=Ya (.lst zs)/\xs.length+zs.length<=bG/\∀p,H p=Ym->Q (.ref p) (upd H p (.lst (xs++zs)))
theorem ZvU:aO X (jb .Add) Zzl:=by
 intro pins s σ H x y v u Q I rx ry h;obtain⟨l,b,xs,zs,rfl,rfl,hH,hB,hz,q⟩:=h;cases rx;cases ry;obtain⟨z,its,n,r,hl,e⟩:=I.tU hH;obtain⟨z2,its2,n2,r2,hl2,e2⟩:=I.tU hB;refine PySem.P.add_list e e2 ?_ (by rw[Yq,Yq];exact lE 3 0x413c0402c0132311031 T1 hl2 hl hz);have ea:its.toArray++its2.toArray=(its++its2).toArray:=by simp
 rw[ea];exact⟨.ref _,_,I.XX (t':=s.toks) (r.append r2) (by rw[Yf];exact hz),rfl,q _ I.fresh⟩
def Zy6:R2:=λx y H Q=>∃l k xs,x= .ref l/\y= .int k/\H l=Ya (.lst xs)/\ -(2^63)<=k/\k<2^63/\xs.length*k.toNat<=bG/\
 ∀p,H p=Ym->Q (.ref p) (upd H p (.lst (Yr k.toNat xs).flatten))
theorem len_rep{α:Type}(xs:List α)(k:Nat):(Yr k xs).flatten.length=k*xs.length:=by
 induction k with
 |zero=>simp|succ k ih=>rw[tZ,kJ,Yf,ih,Nat.succ_mul,mH]
theorem Zvq:aO X (jb .Mult) Zy6:=by
 intro pins s σ H x y v u Q I rx ry h;obtain⟨l,k,xs,rfl,rfl,hH,h1,h2,hz,q⟩:=h;cases rx;obtain⟨t,rfl⟩:=ry;obtain⟨z,its,n,r,hl,e⟩:=I.tU hH;have hlen:its.toArray.size*k.toNat<=bG:=by rw[Yq,←hl];exact hz
 have AbC:¬its.toArray.size*k.toNat>(2^63-1) / 8:=by
  have:(bG:Nat)<=(2^63-1) / 8:=by decide
  omega
 have hfit:¬(!Builtin.List.listFitsIndex k)=true:=by rw[fitsIndex_both h1 h2];exact mJ
 have Et:¬Bf (its.toArray.size*k.toNat)=true:=by rw[SX hlen];exact mJ
 have hnew:Ju (λx1 x2=>x1++x2) #[] (Yr (if its.toArray.isEmpty=true then 0 else k.toNat) its.toArray)=(Yr k.toNat its).flatten.toArray:=by
  have f0:∀m:Nat,Ju (λx1 x2=>x1++x2) #[] (Yr m its.toArray)=(Yr m its).flatten.toArray:=λm=>by have:=foldl_rep its m [];rw[jk]at this;exact this
  rw[f0];cases its with
  |nil=>simp|cons a r'=>rw[if_neg (by simp)]
 refine wpAny_binaryOp_repeat_ref (T:="list") (U:="int") (by decide) ⟨_,e,rfl⟩ (λs'=>QQ s' k t) noFill_list_mul F.fills_int_mul Yl6 repeat_list F.slot_int_index.lookup
  (qG Yl6 (QQ s k t) F.entry_int_rmul (F.args_int_rmul_2 _ _) (int___rmul___int_list k t l its.toArray n)
   ⟨e,rfl,⟨_,e,rfl⟩,qG F.slot_list_mul ⟨_,e,rfl⟩ F.entry_list_mul (F.args_list_mul_2 _ _) (AutoListH.list___mul___list_int_3 l its.toArray n k t hfit AbC Et) ⟨e,?_⟩⟩)
 rw[hnew];exact⟨.ref _,_,I.XX (t':=s.toks) (r.rep k.toNat) (by rw[len_rep,Nat.mul_comm];exact hz),rfl,q _ I.fresh⟩
end
end _L2
namespace _Att
open PySem PySem.W PySem.Calls PyProof.Rows
theorem ZiY{P:Params}{h:aR}:∀(ns:List Int) (vs:List Yh),WellAll P h vs (ns.map WData.int)->IntsAre vs ns:=by
 intro ns
 induction ns with
 |nil=>intro vs w;rw[uc]at w;cases w;exact .nil|cons n ns ih=>
  intro vs w;rw[Ys]at w;cases w with
  |cons a b=>
   cases a
   exact .cons _ _ (ih _ b)
theorem Zqs{l:OpenLaw}{n:Nat}(hn:l.most=Ya n){P:Params}{h:aR}{args:List WData}{vals:List Yh}(hpre:l.row.toRowW.claim.pre args=true)(hwl:WellAll P h vals args):
  ∃a vs ns,vals=[Value.ref a]/\args=[WData.list (ns.map WData.int)]/\h.get? a=Ya {cls:=.type "list",data:=.seq vs.toArray}/\IntsAre vs ns/\ns.length<=n:=by
 have hsh:WShape.hasAll [] args [.list .int]=true:=(pre_splitW hpre).1;have hc:l.pre.holds [] {args:=args}=true:=(pre_splitW hpre).2;obtain⟨d,r,rfl,h1,h2⟩:=hasAllW_cons hsh;obtain rfl:=hasAllW_nil h2;obtain⟨xs,rfl,h3⟩:=hasW_list h1;obtain⟨ns,rfl⟩:=items_int h3;have hlen:ns.length<=n:=by
  unfold OpenLaw.pre at hc;have h4:(WTm.not (.lt (.lit (.int (n:Int))) (.len (.arg 0)))).holds [] {args:=[.list (ns.map .int)]}=true:=by have h4:=(holds_andW hc).1;rw[hn]at h4;exact h4
  have h5:=condW_of h4 (w_not (w_lt w_lit (w_len_list (w_arg rfl))));rw[Yu]at h5;refine j8 λq=>?_;have q':(n:Int)<((ns.length:Nat):Int):=by exact J3.2 q
  first
   |(rw[decide_eq_true q']at h5;exact absurd h5 (by decide))
   |(simp at h5;omega)
 cases hwl with
 |cons w1 w2=>
  cases w2
  cases w1 with
  |list ho hall=>exact⟨_,_,ns,rfl,rfl,ho,ZiY ns _ hall,hlen⟩
theorem Zp9(l:OpenLaw)(args:List WData):l.row.toRowW.claim.post args (.bool true) args=true:=
 postW_of (r:=l.row.toRowW) (X:=(true==true))
  (show WShape.has [] (.bool true) .bool=true by first|rfl|decide|simp[WShape.has,WShape.arms,WShape.armsAll])
  (show(WTm.eq .res (.lit (.bool true))).value [] {args:=args,res:=Ya (.bool true),after:=args}=Ya (.bool (true==true))from w_eq_bool (w_res rfl) w_lit) rfl
theorem Aaz{l:OpenLaw}{n:Nat}{q:bR}{loose:List aj}{XP:(aj->Option Yh)->aR->Prop}{YP:bJ->aR->Prop}{d:DefRec}(hn:l.most=Ya n)(hdf:d.params.defaults=[])(call:∀(w:bJ) (s₀ s₁:Yl) (mg mb:aj->Option Yh) (fa:Y4) (o:aP) (pm cd doc:Yh) (a:Y4) (vs:List Yh) (ns:List Int),
   Ground q loose [] XP w s₀ mg mb s₁.heap->YP w s₁.heap ->
   s₁.heap.get? fa=Ya o->o.data= .func (docDef d.name d.params d.body d.scope pm cd doc)->s₁.heap.CodeRec cd d.name->mg d.name=Ya (.ref fa) ->
   s₁.heap.get? a=Ya {cls:=.type "list",data:=.seq vs.toArray}->IntsAre vs ns->ns.length<=n->s₁.gens= #[] ->
   nR (aB l.prog w) vV (.call (.ref fa) ⟨[.ref a],[]⟩) (λr s'=>r= .ok (.ret (.bool true))/\OldK s₁.heap s'.heap/\s'.os=s₁.os/\ut s'.gens) s₁):
  WalkO q loose XP YP l.row.toRowW d [] (λf vs=>QR f vs):=by
 intro w s₀ s₁ mg mb G Y fa o pm cd doc dV kV ho hd hcd hD hmg hg args vals as hpre hlay hrd hwl hlo;obtain rfl:dV= .none:=Dflts.none hD hdf;obtain rfl:kV= .none:=Dflts.noKw hD;obtain⟨a,vs,ns,rfl,rfl,hobj,hints,hlen⟩:=Zqs hn hpre hwl;refine enter_call (vQ (call w s₀ s₁ mg mb fa o pm cd doc a vs ns G Y ho (fd_plain hd) hcd hmg hobj hints hlen hg) λr s' hq=>?_);obtain⟨rfl,h2,h3,h4⟩:=hq;exact⟨.inl ⟨.bool true,.bool true,[],rfl,λ_=>rfl,.bool true,Zp9 l _,λ_=>⟨List.Pairwise.nil,λ_ hm=>(nomatch hm)⟩⟩,h2,h3,h4⟩
end _Att
namespace _L2
open PySem PySem.Spec PyProof.Rows
theorem Zky:∀{vs:List Yh} {ns:List Int},IntsAre vs ns->Vals (ns.map V.int) vs
 |_,_,.nil=>.nil|_,_,.cons n t h=>.cons ⟨t,rfl⟩ (Zky h)
def Only(H:Hp):Prop:=∀b,H b=Ym\/∃o xs,H b=Ya (.gA o (.lst xs))
theorem ZrQ{P:bR}{w:bJ}{K:Yb}{mg mb:aj->Option Yh}{CX:pX}{k:Nat}{fa a:Y4}{fd:lU}{x:aj}{sp:Sp}{s₁:Yl}{vs:List Yh}{ns:List Int}(KX:K.In s₁.heap)(hns:s₁.heap.Ns Yx mg)(hb:s₁.heap.Ns QL mb)(hbb:∀x:aj,x≠ "__name__" ->mb x=kY x)(hlim:s₁.heap.NoLimit)(hg:s₁.gens= #[])(ha:s₁.heap.get? a=Ya {cls:=.type "list",data:=.seq vs.toArray})(hi:IntsAre vs ns)(hl:ns.length<=bG)(hr:d9 k vV)(F:∀base:aR,K.In base->base.Ns Yx mg->jO P w K mg base CX k fa fd [x] sp)(hbind:∀(s:Yl) (u:Yh),Aq s fd ⟨[u],[]⟩ [(x,u)])(hsp:∀H:Hp,Only H->bM K H a (ns.map V.int)->sp [.ref a] H (λv _=>v= .bl true) λ_ _ _=>False)(Tc:∀H e s',CX [] H s₁ (λ_ _ _=>False) e s'->False):
  nR (aB P w) vV (.call (.ref fa) ⟨[.ref a],[]⟩) (λr s'=>r= .ok (.ret (.bool true))/\OldK s₁.heap s'.heap/\s'.os=s₁.os/\ut s'.gens) s₁:=by
 have rv:=Zky hi;have lenV:=hi.length;have core:∀H:Hp,Only H->bM K H a (ns.map V.int)->iy P w H s₁.heap->(∀b,H b≠Ym->b=a)->(H a≠Ym->K.lookup a=Ym) ->
   nR (aB P w) vV (.call (.ref fa) ⟨[.ref a],[]⟩) (λr s'=>r= .ok (.ret (.bool true))/\OldK s₁.heap s'.heap/\s'.os=s₁.os/\ut s'.gens) s₁:=by
  intro H hO hS hok hA hK;have Xv:∀{b:Y4} {o:aP},s₁.heap.get? b=Ya o->H b=Ym->(uy s₁.heap H).get? b=Ya o:=λe n=>ZrB e n;have Gp:∀{b:Y4} {o:aP} {es:Array DictEntry} {ep:Nat},s₁.heap.get? b=Ya o->o.data= .dict es ep->H b=Ym:=λ{b o es ep} e d=>by
   cases q:H b with
   |none=>rfl|some u=>have e':b=a:=hA b (by rw[q];simp);subst e';rw[ha]at e;cases e;have d':Data.seq vs.toArray _=Data.dict es ep:=d;cases d'
  have KY:∀{b:Y4} {m:aj->Option Yh},s₁.heap.Ns b m->(uy s₁.heap H).Ns b m:=λ{b m} ⟨o,es,ep,e,d,r⟩=>⟨o,es,ep,Xv e (Gp e d),d,r⟩;have hKb:K.In (uy s₁.heap H):=λb o e=>Xv (KX b o e) (by
   cases q:H b with
   |none=>rfl|some u=>have e':b=a:=hA b (by rw[q];simp);subst e';rw[hK (by rw[q];simp)]at e;cases e)
  have hM:Mod K mg (uy s₁.heap H):=⟨hKb,KY hns,⟨mb,KY hb,hbb⟩,let⟨mc,h1,h2⟩:=hlim;⟨mc,KY h1,h2⟩⟩;have e0:sI P w K mg (uy s₁.heap H) vV [] s₁ H:=⟨rfl,hM,λb o e=>Zup e,j9 (ZpM _ _),trivial,λb hb=>absurd (show b∈([]:List Y4)from hb) (by simp),hok,.of_eq hg⟩;refine vQ ((F _ hKb (KY hns)).run vV [] s₁ H ⟨[.ref a],[]⟩ [.ref a] [.ref a] _ _ hr e0 (hbind s₁ (.ref a)) (.cons rfl .nil) (hsp H hO hS)) λr s' h=>?_;cases r with
  |error e=>exact(Tc H e s' h).elim|ok fl=>
   cases fl with
   |next=>exact jM h|brk=>exact jM h|cont=>exact jM h|ret u=>
    obtain⟨v,H',os,bare,un,hok',r',q⟩:=h;have q':v= .bl true:=q;subst q';obtain rfl:u=Value.bool true:=r';refine⟨rfl,OldK.of_keep λb o e=>?_,os,bare⟩;cases q:H b with
    |none=>exact un.keep b o e q (by intro z;exact absurd (show b∈([]:List Y4)from z) (by simp)) (by simp)|some u=>
     rcases hO b with z|⟨ob,xs,z⟩
     .rw[q]at z;cases z
     .have z2:=un.oV b ob _ z;obtain⟨e1,_⟩:=hok b _ z;obtain⟨e2,_⟩:=hok' b _ z2;rw[e]at e1;cases e1;exact e2
 cases hk:K.lookup a with
 |some o=>have e:=KX a o hk;rw[ha]at e;cases e;refine core (λ_=>Ym) (λ_=>.inl rfl) (.inr ⟨_,vs.toArray,_,hk,rfl,rfl,rfl,by rw[Yq,lenV];exact hl,by simpa using rv⟩) (λb u z=>by have z':(Ym:Option HO)=Ya u:=z;cases z') (λb z=>absurd rfl z) λz=>absurd rfl z|none=>
  refine core (λb=>if b=a then Ya (.gA {cls:=.type "list",data:=.seq vs.toArray} (.lst (ns.map V.int)))else Ym) (λb=>?_) (.inl (.inr ⟨{cls:=.type "list",data:=.seq vs.toArray},if_pos rfl⟩)) (λb u z=>?_) (λb z=>?_) λ_=>hk
  .by_cases hb:b=a
   .exact .inr ⟨_,_,if_pos hb⟩
   .exact .inl (if_neg hb)
  .by_cases hb:b=a
   .have z':=(if_pos hb).symm.trans z;cases z';subst hb;exact⟨ha,by rw[Yu];exact hl,vs,_,rv,ha⟩
   .have z':=(if_neg hb).symm.trans z;cases z'
  .by_cases hb:b=a
   .exact hb
   .exact absurd (if_neg hb) z
end _L2
namespace _L2
open PySem PySem.Spec PyProof.Rows
theorem ZpD{l:PySem.W.OpenLaw}{n k:Nat}{q:bR}{loose:List aj}{XP:(aj->Option Yh)->aR->Prop}{YP:bJ->aR->Prop}{d:DefRec}{K:Params->Yb}{CX:bJ->pX}{sp:bJ->Sp}{x:aj}(hn:l.most=Ya n)(hn2:n<=bG)(hdf:d.params.defaults=[])(hr:d9 k vV)(hY:∀(w:bJ) (h:aR),YP w h->(K w.params).In h)(F:∀(w:bJ) (mg:aj->Option Yh) (fa:Y4) (h:aR),(K w.params).In h->h.Ns Yx mg->mg d.name=Ya (.ref fa) ->
   ∃fd:lU,(∀(s:Yl) (u:Yh),Aq s fd ⟨[u],[]⟩ [(x,u)])/\
    ∀base:aR,(K w.params).In base->base.Ns Yx mg->jO l.prog w (K w.params) mg base (CX w) k fa fd [x] (sp w))(hsp:∀(w:bJ) (H:Hp) (a:Y4) (ns:List Int),ns.length<=n->Only H->bM (K w.params) H a (ns.map V.int)->sp w [.ref a] H (λv _=>v= .bl true) λ_ _ _=>False)(Tc:∀(w:bJ) (H:Hp) (s:Yl) (e:Yh) (s':Yl),CX w [] H s (λ_ _ _=>False) e s'->False):
  Z4 q loose XP YP l.row.toRowW d [] (λf vs=>QR f vs):=by
 refine _Att.Aaz hn hdf λw s₀ s₁ mg mb fa o pm cd doc a vs ns G Y ho hd hcd hmg hobj hints hlen hg=>?_;have KX:=hY w _ Y;obtain⟨fd,hb,hF⟩:=F w mg fa _ KX G.T.g hmg;exact ZrQ KX G.T.g G.T.b G.T.builtins G.T.nolimit hg hobj hints (Yi hlen hn2) hr hF hb (λH hO hS=>hsp w H a ns hlen hO hS) λH e s'=>Tc w H s₁ e s'
end _L2
/-THE LAST THEOREM (shape;LID,My.*are AeR):
  My.Adr:a structure of the addresses that your layer names (classes,functions);My.Txt K t:a structure (Prop) of the equations over K;
  My.Abg:{K} {implicit addresses ..} (e1:nsIn K Yx "law" =Ya (Ya (.ref f))) (e2:K.lookup f=Ya ⟨oc,od,.func (fnOf "law" "law" params body scope dV kV doc pm an cdv ct),sl⟩) (e3:codeIn K cdv "law" =true) ..:∃t,My.Txt K t
set_option maxRecDepth 100000 in
set_option maxHeartbeats 0 in
theorem PySem.Challenge.cw_LID_holds : PySem.Challenge.rw_LID.Holds := by
 w_on;o_law;k_head;(case hw=>w_witness2)
 k_fill
 refine _L2.ZpD (l:=PySem.Challenge.rw_LID) (n:=63) (k:=40) (x:="script") (CX:=λw=>..) (sp:=λ_=>My.sp_law) rfl (by decide) rfl ⟨rfl,by decide,by decide⟩ (λw h Y=>PySem.W.kIn_of Y) ?F ?S ?C
 case F=>
  intro w mg fa h KX G hmg;have T:∃t,My.Txt (_L2.KOf KX) t:=by
   dsimp only[_L2.KOf]                          --K must stand as «<heap const>w.params» for k_is;refine' My.Abg ?e1 ?e2 ?e3 ..
   (case e1=>PySem.W.k_is)                    --in the order:a name->its address->its object->its parts
   (case e2=>PySem.W.k_is)
   ..
  obtain⟨t,T⟩:=T;have e0:=hmg.symm.trans (Z5 KX G T.law);cases e0                                       --fa is the law's own address;exact⟨_,λs u=>.of_eq rfl,λbase kb nb=>My.Abh T kb nb⟩     --if «.of_eq rfl» comes too early:refine'⟨_,?b,λbase kb nb=>My.Abh T kb nb⟩;exactλs u=>.of_eq rfl
 case S=>exactλw H a ns hl hO hS=>..
 case C=>exact ..
(the tactic k_is has no namespace:write k_is) -/
namespace _L2
open PySem PySem.Spec PyProof.Rows
noncomputable def cT(s:Yep):Arguments:=match s with
 | .FunctionDef _ a _ _ _ _ _ _ _ _=>a|_=>{posonlyargs:=[],args:=[],vararg:=Ym,kwonlyargs:=[],kw_defaults:=[],kwarg:=Ym,defaults:=[]}
noncomputable def cH(s:Yep):List Yep:=match s with
 | .FunctionDef _ _ b _ _ _ _ _ _ _=>b|_=>[]
noncomputable def Zk(s:Yep):Scope:=match s with
 | .FunctionDef _ _ _ _ _ _ sc _ _ _=>sc|_=>{kind:=.function,names:=[],isGenerator:=false,isCoroutine:=false}
noncomputable abbrev mU:pX:=λ_ _ _ _ _ _=>False
noncomputable abbrev E0:XK:=λ_ _ _=>False
theorem ZuF{X:Cx}:Gn mU X E0:=λ_ _ _ _ _ _ _ h=>h.elim
structure uG(K:Yb)(x qual:aj)(st:Yep)(f:Y4)(fd:lU):Prop where
 ex:∃(oc:Yh) (od:Option Y4) (dV kV doc pm:Yh) (an:Option Y4) (cdv ct:Yh) (osl:Array (Option Yh)),
  fd=rR x qual (cT st) (cH st) (Zk st) dV kV doc pm an cdv ct/\K.lookup f=Ya ⟨oc,od,.func fd,osl⟩/\EY K cdv qual=true
 kp:tY K (.ref f)=true
section
variable {P:bR} {w:bJ} {K:Yb} {mg:aj->Option Yh} {base:aR}
theorem uG.ok{x qual:aj}{st:Yep}{f:Y4}{fd:lU}{N ps:List aj}{k:Nat}{sp:Sp}(F:uG K x qual st f fd)(S:dg N ps (Zk st))(len:∀vs H Q E,sp vs H Q E->vs.length=ps.length)(hbody:∀(cdv:Yh) (A:bW) (outer:List gj) (s:Yl) (H:Hp) (vs:List V) (Q:VK) (E:XK),d9 k (A.deeper (pP qual (Zk st) s.heap.objs.size f cdv))->sp vs H Q E ->
   ∃t,kZ (uE mU P w K mg base N qual (Zk st) f cdv A outer s H E).yx (cH st) t/\t {nx:=λ_ H'=>Q .non H',rt:=Q} (start N vs) H):jO P w K mg base mU (k+1) f fd ps sp:=by
 obtain⟨oc,od,dV,kV,doc,pm,an,cdv,ct,osl,rfl,lk,hcd⟩:=F.ex;refine Zxh lk hcd S len λA outer s H vs Q E hr hsp=>?_;obtain⟨t,h,q⟩:=hbody cdv A outer s H vs Q E hr hsp;exact⟨t,h.yx,q⟩
theorem uG.binds{x qual:aj}{st:Yep}{f:Y4}{fd:lU}{ps:List aj}(F:uG K x qual st f fd)(h:∀(dV kV doc pm:Yh) (an:Option Y4) (cdv ct:Yh) (us:List Yh),us.length=ps.length->bindArgs (rR x qual (cT st) (cH st) (Zk st) dV kV doc pm an cdv ct) ⟨us,[]⟩=pure (ps.zip us)):Binds K fd ps []:=by obtain⟨oc,od,dV,kV,doc,pm,an,cdv,ct,osl,rfl,lk,hcd⟩:=F.ex;exact .all (h dV kV doc pm an cdv ct)
theorem Zsl{x qual:aj}{st:Yep}{f:Y4}{oc:Yh}{od an:Option Y4}{osl:Array (Option Yh)}{dV kV doc pm cdv ct:Yh}(l:K.lookup f=Ya ⟨oc,od,.func (rR x qual (cT st) (cH st) (Zk st) dV kV doc pm an cdv ct),osl⟩)(c:EY K cdv qual=true)(k:tY K (.ref f)=true):uG K x qual st f (rR x qual (cT st) (cH st) (Zk st) dV kV doc pm an cdv ct):=⟨⟨oc,od,dV,kV,doc,pm,an,cdv,ct,osl,rfl,l,c⟩,k⟩
end
def wB(H H':Hp):Prop:=∀b o,H b=Ya o->H' b=Ya o
theorem wB.trans{H H1 H2:Hp}(a:wB H H1)(b:wB H1 H2):wB H H2:=λc o h=>b c o (a c o h)
theorem wB.free{H H':Hp}(e:wB H H'){l:Y4}(h:H' l=Option.none):H l=Option.none:=by
 cases q:H l with
 |none=>rfl|some o=>rw[e l o q]at h;cases h
theorem wB.seq{K:Yb}{H H':Hp}{a:Y4}{xs:List V}(e:wB H H')(h:bM K H a xs):bM K H' a xs:=by
 rcases h with(h|⟨o,h⟩)|h
 .exact .inl (.inl (e _ _ h))
 .exact .inl (.inr ⟨o,e _ _ h⟩)
 .exact .inr h
end _L2
namespace _L2
open PySem PySem.Spec PyProof.Rows
section
variable {κ:Type} [DecidableEq κ]
noncomputable def mV(kvs:List (κ×V))(k:κ):Option V:=(kvs.find? λkv=>decide (kv.1=k)).map (·.2)
noncomputable def putK(kvs:List (κ×V))(k:κ)(v:V):List (κ×V):=if(kvs.any λkv=>decide (kv.1=k))=true then kvs.map (λkv=>if kv.1=k then(kv.1,v)else kv)else kvs++[(k,v)]
theorem Zrw{k:κ}:mV ([]:List (κ×V)) k=Ym:=rfl
theorem KZ{p:κ×V}{r:List (κ×V)}{k:κ}(e:p.1=k):mV (p::r) k=Ya p.2:=by simp[mV,Aj,e]
theorem K7{p:κ×V}{r:List (κ×V)}{k:κ}(e:¬p.1=k):mV (p::r) k=mV r k:=by simp[mV,Aj,e]
theorem ZmE(k:κ):∀kvs:List (κ×V),(kvs.any λkv=>decide (kv.1=k))=(mV kvs k).isSome
 |[]=>rfl|p::r=>by
  rw[lR];by_cases e:p.1=k
  .simp only[KZ e,decide_eq_true e,Bool.true_or,Option.isSome_some]
  .rw[K7 e,decide_eq_false e,Ymy];exact ZmE k r
theorem oZ.AaY{o:Option V}{u:Option Yh}(r:oZ o u):o.isSome=u.isSome:=by
 cases o with
 |none=>cases u with
  |none=>rfl|some _=>exact(show False from r).elim
 |some _=>cases u with
  |none=>exact(show False from r).elim|some _=>rfl
theorem oZ.getD{o:Option V}{u:Option Yh}{d:V}{d':Yh}(r:oZ o u)(rd:RelV d d'):RelV (o.getD d) (u.getD d'):=by
 cases o with
 |none=>cases u with
  |none=>exact rd|some _=>exact(show False from r).elim
 |some _=>cases u with
  |none=>exact(show False from r).elim|some _=>exact r
theorem KV.val{kvs:List (κ×V)}{vs:List (κ×Yh)}(r:KV kvs vs)(k:κ):oZ (mV kvs k) (Ar vs k):=by
 unfold KV at r
 induction r with
 |nil=>exact True.intro|@cons p q ps qs h t ih=>
  obtain⟨h1,h2⟩:=h;by_cases e:p.1=k
  .have e':q.1=k:=h1.symm.trans e;have b:Ar (q::qs) k=Ya q.2:=by simp[Ar,Aj,e']
   rw[KZ e,b];exact h2
  .have e':¬q.1=k:=λz=>e (h1.trans z);have b:Ar (q::qs) k=Ar qs k:=by simp[Ar,Aj,e']
   rw[K7 e,b];exact ih
theorem KV.any{kvs:List (κ×V)}{vs:List (κ×Yh)}(r:KV kvs vs)(k:κ):(kvs.any λkv=>decide (kv.1=k))=vs.any λkv=>decide (kv.1=k):=by
 unfold KV at r
 induction r with
 |nil=>rfl|cons h t ih=>rw[lR,lR,ih,h.1]
theorem KV.repl{kvs:List (κ×V)}{vs:List (κ×Yh)}(r:KV kvs vs)(k:κ){y:V}{u:Yh}(ry:RelV y u):
  KV (kvs.map λkv=>if kv.1=k then(kv.1,y)else kv) (vs.map λkv=>if kv.1=k then(kv.1,u)else kv):=by
 unfold KV at r ⊢
 induction r with
 |nil=>exact .nil|@cons p q ps qs h t ih=>
  rw[Ys,Ys];refine .cons ?_ ih;obtain⟨h1,h2⟩:=h;by_cases e:p.1=k
  .rw[if_pos e,if_pos (h1.symm.trans e)];exact⟨h1,ry⟩
  .rw[if_neg e,if_neg (λz=>e (h1.trans z))];exact⟨h1,h2⟩
theorem KV.put{kvs:List (κ×V)}{vs:List (κ×Yh)}(r:KV kvs vs)(k:κ){y:V}{u:Yh}(ry:RelV y u):KV (putK kvs k y) (stored vs k u):=by
 unfold putK stored;rw[r.any k];by_cases e:(vs.any λkv=>decide (kv.1=k))=true
 .rw[if_pos e,if_pos e];exact r.repl k ry
 .rw[if_neg e,if_neg e];exact Paired.snoc r ⟨rfl,ry⟩
theorem KV.length{kvs:List (κ×V)}{vs:List (κ×Yh)}(r:KV kvs vs):kvs.length=vs.length:=Ymu r
end
noncomputable abbrev KT(H:Hp):List (List Key×V)->List (List Key×Y4×Yh)->Prop:=Paired λp q=>p.1=q.1/\H q.2.1=Ya (.tup (p.1.map kV))/\RelV p.2 q.2.2
variable{H:Hp}{kvs:List (List Key×V)}{xs:List (List Key×Y4×Yh)}
theorem KT.val(r:KT H kvs xs)(k:List Key):oZ (mV kvs k) ((v5 xs k).map (·.2)):=by
 induction r with
 |nil=>exact True.intro|@cons p q ps qs h t ih=>
  obtain⟨h1,_,h2⟩:=h;by_cases e:p.1=k
  .have e':q.1=k:=h1.symm.trans e;have b:v5 (q::qs) k=Ya q.2:=by simp[v5,Aj,e']
   rw[KZ e,b];exact h2
  .have e':¬q.1=k:=λz=>e (h1.trans z);have b:v5 (q::qs) k=v5 qs k:=by simp[v5,Aj,e']
   rw[K7 e,b];exact ih
theorem KT.repl(r:KT H kvs xs)(k:List Key){y:V}{u:Yh}(ry:RelV y u):
  KT H (kvs.map λkv=>if kv.1=k then(kv.1,y)else kv) (xs.map (putAt k u)):=by
 induction r with
 |nil=>exact .nil|@cons p q ps qs h t ih=>
  rw[Ys,Ys];refine .cons ?_ ih;obtain⟨h1,h2,h3⟩:=h;unfold putAt;by_cases e:p.1=k
  .rw[if_pos e,if_pos (h1.symm.trans e)];exact⟨h1,h2,ry⟩
  .rw[if_neg e,if_neg (λz=>e (h1.trans z))];exact⟨h1,h2,h3⟩
theorem KT.put(r:KT H kvs xs)(k:List Key){b:Y4}{y:V}{u:Yh}(hb:H b=Ya (.tup (k.map kV)))(ry:RelV y u):
  KT H (putK kvs k y) (storedH xs k b u):=by
 have e:(kvs.any λkv=>decide (kv.1=k))=(v5 xs k).isSome:=by rw[ZmE,(r.val k).AaY,Option.isSome_map]
 unfold putK storedH;rw[e];by_cases q:(v5 xs k).isSome=true
 .rw[if_pos q,if_pos q];exact r.repl k ry
 .rw[if_neg q,if_neg q];exact Paired.snoc r ⟨rfl,hb,ry⟩
theorem KT.keeps{H':Hp}(r:KT H kvs xs)(ht:∀b ys,H b=Ya (.tup ys)->H' b=Ya (.tup ys)):KT H' kvs xs:=Paired.Pn r λ_ _ z=>⟨z.1,ht _ _ z.2.1,z.2.2⟩
def K8(H:Hp)(a:Y4)(y:V)(r:Option V):Prop:=(∃kvs k,Rd H a (.dK kvs)/\y=kV k/\r=mV kvs k)\/∃kvs k b,Rd H a (.dT kvs)/\y= .ref b/\H b=Ya (.tup (k.map kV))/\r=mV kvs k
def K9(H:Hp)(a:Y4)(y v:V)(H':Hp):Prop:=
 (∃kvs k,H a=Ya (.dK kvs)/\y=kV k/\kvs.length<bG/\H'=upd H a (.dK (putK kvs k v)))\/
 ∃kvs k b,H a=Ya (.dT kvs)/\y= .ref b/\H b=Ya (.tup (k.map kV))/\kvs.length<bG/\H'=upd H a (.dT (putK kvs k v))
theorem K8.k{H:Hp}{a:Y4}{kvs:List (Key×V)}{k:Key}(e:H a=Ya (.dK kvs)):K8 H a (kV k) (mV kvs k):=.inl ⟨kvs,k,.inl e,rfl,rfl⟩
theorem K8.t{a b:Y4}{k:List Key}(e:H a=Ya (.dT kvs))(eb:H b=Ya (.tup (k.map kV))):K8 H a (.ref b) (mV kvs k):=.inr ⟨kvs,k,b,.inl e,rfl,eb,rfl⟩
theorem K9.k{H:Hp}{a:Y4}{kvs:List (Key×V)}{k:Key}{v:V}(e:H a=Ya (.dK kvs))(hl:kvs.length<bG):K9 H a (kV k) v (upd H a (.dK (putK kvs k v))):=.inl ⟨kvs,k,e,rfl,hl,rfl⟩
theorem K9.t{a b:Y4}{k:List Key}{v:V}(e:H a=Ya (.dT kvs))(eb:H b=Ya (.tup (k.map kV)))(hl:kvs.length<bG):
  K9 H a (.ref b) v (upd H a (.dT (putK kvs k v))):=.inr ⟨kvs,k,b,e,rfl,eb,hl,rfl⟩
def K_(i:Expr):Prop:=∀ov iv,JB i false ov iv=operate [ov,iv] (qH ov iv)
theorem Zua{prog:bR}{w:bJ}{A:bW}{E:Yh->Yl->Prop}{s:Yl}{env:gj}{value slice:Expr}{pos:aZ}{T id:String}{Q:Yh->Yl->Prop}(hl:typeLookup (.type T) "__getitem__" =pure (Ya (.builtin id)))(hs:K_ slice)(h:ao (aB prog w) A (aM value env) (λo s₁=>ao (aB prog w) A (aM slice env) (λi s₂=>s₂.TypeIs o T/\ao (aB prog w) A (qH o i) Q E s₂) E s₁) E s):
  ao (aB prog w) A (aM (.Subscript value slice pos) env) Q E s:=by
 refine Rg (j7 h (λo s₁ h₁=>j7 h₁ (λi s₂ h₂=>?_) λ_ _ x=>x) λ_ _ x=>x);obtain⟨hT,h₂⟩:=h₂;unfold Rf;refine Yg ?_;rw[getitemInPython_of_ne hT.not_modules];refine Yg (Qx hT hl ?_);have fin:ao (aB prog w) A (JB slice false o i) (λr s₃=>ao (aB prog w) A (letTemporaryGo value o r>>=λ_=>pure r) Q E s₃) E s₂:=by rw[hs o i];exact wpAny_operating (j7 h₂ (λr s₃ h₃=>Yg (wpAny_letTemporaryGo (Yv h₃))) λ_ _ x=>x)
 first
  |exact Yv (Yg fin)
  |exact Yg (Yv (Yg fin))
  |exact Yg fin
structure M1(X:Cx)(o:Expr)(m:aj)(apos:aZ)(e:Expr)(cpos:aZ):Prop where
 base:nQ o m X.env (aM o X.env)=aM o X.env
 few:((cN cpos (Yz [e] X.env)).all (λx=>!x.1)&&(jc cpos (i_ [] X.env)).all (λx=>x.1.isSome)
  &&decide (([e]:List Expr).length+([]:List Keyword).length+(if([]:List Keyword).isEmpty then 0 else 1)<30))=true
 line:(apos.endLine==cpos.line)=true
 trees:cN cpos (Yz [e] X.env)=[(false,aM e X.env)]
structure M2(X:Cx)(o:Expr)(m:aj)(apos:aZ)(e f:Expr)(cpos:aZ):Prop where
 base:nQ o m X.env (aM o X.env)=aM o X.env
 few:((cN cpos (Yz [e,f] X.env)).all (λx=>!x.1)&&(jc cpos (i_ [] X.env)).all (λx=>x.1.isSome)
  &&decide (([e,f]:List Expr).length+([]:List Keyword).length+(if([]:List Keyword).isEmpty then 0 else 1)<30))=true
 line:(apos.endLine==cpos.line)=true
 trees:cN cpos (Yz [e,f] X.env)=[(false,aM e X.env),(false,aM f X.env)]
end _L2
namespace _L3
open PySem
variable{env:bK}{it:gm}{T:o4}{hi lo:Option Int}{M:Store}
noncomputable section
inductive D where
 |non|bl (b:Bool)|int (i:Int)|str (x:List Nat)|tup (ds:List D)|bD (ds:List D)|ref (n:Nat)
 deriving Inhabited
noncomputable abbrev g8:=Sum Int (List Nat)
inductive MO where
 |lst (xs:List D)|dct (kvs:List (g8×D))|cV (kvs:List (g8×D))|ins (c:List Nat) (fs:List (List Nat×D))
 deriving Inhabited
noncomputable abbrev Store:=List MO
structure X3 where
 cls:List Nat
 arg:D
inductive R3(α:Type)where
 |ok (a:α) (M:Store)|exc (x:X3) (M:Store)|bad
@[simp] noncomputable def R3.bind{α β:Type}(r:R3 α)(k:α->Store->R3 β):R3 β:=match r with
 | .ok a M=>k a M|.exc x M=>.exc x M|.bad=>.bad
theorem R3.Aa4{α β:Type}(a:α)(M:Store)(k:α->Store->R3 β):(R3.ok a M).bind k=k a M:=rfl
theorem ft{C:Prop}(h:false=true):C:=Bool.noConfusion h
theorem jq{α:Type}{C:Prop}{k:α}(h:Ym=Ya k):C:=by cases h
noncomputable def dF:Nat->D->Bool
 |_,.non=>true|_,.bl _=>true|_,.int _=>true|_,.str _=>true
 |n+1,.tup ds=>ds.all (dF n)|_,_=>false
noncomputable abbrev DEEP:Nat:=60
mutual
noncomputable def dh:D->D->Bool
 | .non,.non=>true|.bl a,.bl b=>a==b|.int a,.int b=>a==b|.str a,.str b=>a==b
 | .tup a,.tup b=>iV a b|.bl a,.int b=>(if a then 1 else 0)==b|.int a,.bl b=>a==(if b then 1 else 0)|_,_=>false
noncomputable def iV:List D->List D->Bool
 |[],[]=>true|a::x,b::y=>dh a b&&iV x y|_,_=>false
end
theorem Td(a b:List Nat):dh (.str a) (.str b)=(a==b):=rfl
theorem ZuM(a b:List D):dh (.tup a) (.tup b)=iV a b:=rfl
theorem Zvk:iV [] []=true:=rfl
theorem Te(a b:D)(x y:List D):iV (a::x) (b::y)=(dh a b&&iV x y):=rfl
mutual
noncomputable def below(n:Nat):D->Bool
 | .tup ds=>cj n ds|.bD ds=>cj n ds|.ref k=>k<n|.non=>true| .bl _=>true| .int _=>true| .str _=>true
noncomputable def cj(n:Nat):List D->Bool
 |[]=>true|d::ds=>below n d&&cj n ds
end
mutual
noncomputable def same:D->D->Bool
 | .non,.non=>true|.bl a,.bl b=>a==b|.int a,.int b=>a==b|.str a,.str b=>a==b
 | .tup a,.tup b=>Bv a b|.bD a,.bD b=>Bv a b|.ref a,.ref b=>a==b|_,_=>false
noncomputable def Bv:List D->List D->Bool
 |[],[]=>true|a::x,b::y=>same a b&&Bv x y|_,_=>false
end
mutual
theorem Zpm:∀{a b:D},same a b=true->a=b
 | .non,b,h=>by cases b<;>first|exact rfl|exact ft h
 | .bl a,b,h=>by cases b<;>first|exact congrArg D.bl (beq_iff_eq.mp h)|exact ft h
 | .int a,b,h=>by cases b<;>first|exact congrArg D.int (beq_iff_eq.mp h)|exact ft h
 | .str a,b,h=>by cases b<;>first|exact congrArg D.str (beq_iff_eq.mp h)|exact ft h
 | .tup a,b,h=>by cases b<;>first|exact congrArg D.tup (Tf h)|exact ft h
 | .bD a,b,h=>by cases b<;>first|exact congrArg D.bD (Tf h)|exact ft h
 | .ref a,b,h=>by cases b<;>first|exact congrArg D.ref (beq_iff_eq.mp h)|exact ft h
theorem Tf:∀{x y:List D},Bv x y=true->x=y
 |[],y,h=>by cases y<;>first|exact rfl|exact ft h
 |a::x,y,h=>by
  cases y with
  |nil=>exact ft h|cons b y=>exact have w:=v9.mp (h:(same a b&&Bv x y)=true);congr (congrArg _ (Zpm w.1)) (Tf w.2)
end
mutual
theorem ZoI:∀(a:D),same a a=true
 | .non=>rfl|.bl a=>beq_self_eq_true a|.int a=>beq_self_eq_true a|.str a=>beq_self_eq_true a
 | .tup a=>Tg a|.bD a=>Tg a|.ref a=>beq_self_eq_true a
theorem Tg:∀(x:List D),Bv x x=true
 |[]=>rfl|a::x=>v9.mpr ⟨ZoI a,Tg x⟩
end
theorem same_iff{a b:D}:same a b=true↔a=b:=⟨Zpm,λh=>h▸ZoI a⟩
noncomputable instance:DecidableEq D:=λa b=>decidable_of_iff (same a b=true) same_iff
noncomputable instance:DecidableEq MO:=λa b=>match a,b with
 | .lst x,.lst y=>if h:x=y then isTrue (by rw[h])else isFalse (by intro e;cases e;exact h rfl)|.dct x,.dct y=>if h:x=y then isTrue (by rw[h])else isFalse (by intro e;cases e;exact h rfl)|.cV x,.cV y=>if h:x=y then isTrue (by rw[h])else isFalse (by intro e;cases e;exact h rfl)|.ins c x,.ins d y=>if h:c=d/\x=y then isTrue (by rw[h.1,h.2])else isFalse (by intro e;cases e;exact h ⟨rfl,rfl⟩)
 | .ins _ _,.lst _=>isFalse (by intro e;cases e)|.ins _ _,.dct _=>isFalse (by intro e;cases e)|.ins _ _,.cV _=>isFalse (by intro e;cases e)|.lst _,.ins _ _=>isFalse (by intro e;cases e)
 | .dct _,.ins _ _=>isFalse (by intro e;cases e)|.cV _,.ins _ _=>isFalse (by intro e;cases e)|.lst _,.dct _=>isFalse (by intro e;cases e)|.lst _,.cV _=>isFalse (by intro e;cases e)
 | .dct _,.lst _=>isFalse (by intro e;cases e)|.dct _,.cV _=>isFalse (by intro e;cases e)|.cV _,.lst _=>isFalse (by intro e;cases e)|.cV _,.dct _=>isFalse (by intro e;cases e)
@[simp] noncomputable abbrev SZ:Nat:=1000000
noncomputable abbrev bK:=List (Option D)
noncomputable abbrev E3:=bK->Store->R3 D
noncomputable abbrev eQ:=bK->Store->R3 (List D)
noncomputable abbrev F3:=List D->Store->R3 D
inductive O3 where
 |nx (env:bK) (M:Store)|rt (d:D) (M:Store)|bk (env:bK) (M:Store)|ct (env:bK) (M:Store)|exc (x:X3) (M:Store)|bad
noncomputable abbrev S3:=bK->Store->O3
@[simp] noncomputable def Za(i:Nat):E3:=λenv M=>match env[i]? with
 |some (Ya d)=>.ok d M|_=>.bad
@[simp] noncomputable def eC(d:D):E3:=λ_ M=>.ok d M
@[simp] noncomputable def e1(op:D->Store->R3 D)(f:E3):E3:=λenv M=>(f env M).bind op
@[simp] noncomputable def e2(op:D->D->Store->R3 D)(f g:E3):E3:=λenv M=>(f env M).bind λa M1=>(g env M1).bind λb M2=>op a b M2
@[simp] noncomputable def Zf:eQ:=λ_ M=>.ok [] M
@[simp] noncomputable def Zb(f:E3)(g:eQ):eQ:=λenv M=>(f env M).bind λa M1=>(g env M1).bind λb M2=>.ok (a::b) M2
@[simp] noncomputable def alloc(o:MO)(M:Store):R3 D:=.ok (.ref M.length) (M++[o])
section
local instance (priority:=100000) AeW (p:Prop):Decidable p:=Y0 p
@[simp] noncomputable def bY(g:eQ):E3:=λenv M=>(g env M).bind λds M1=>if ds.length<=SZ then .ok (.tup ds) M1 else .bad
end
section
local instance (priority:=100000) AeX (p:Prop):Decidable p:=Y0 p
@[simp] noncomputable def aV(g:eQ):E3:=λenv M=>(g env M).bind λds M1=>if ds.length<=SZ then alloc (.lst ds) M1 else .bad
end
@[simp] noncomputable def bN(f g:E3):E3:=λenv M=>(f env M).bind λa M1=>match a with
 | .bl true=>g env M1|.bl false=>.ok (.bl false) M1|_=>.bad
@[simp] noncomputable def fH(f g:E3):E3:=λenv M=>(f env M).bind λa M1=>match a with
 | .bl false=>g env M1|.bl true=>.ok (.bl true) M1|_=>.bad
noncomputable def jr(a:D)(M:Store):R3 D:=match a with
 | .bl b=>.ok (.bl (!b)) M|_=>.bad
@[simp] theorem Zyh:∀b,jr (.bl b) M= .ok (.bl (!b)) M:=λ_=>rfl
@[simp] noncomputable def kh(c f g:E3):E3:=λenv M=>(c env M).bind λa M1=>match a with
 | .bl true=>f env M1|.bl false=>g env M1|_=>.bad
@[simp] noncomputable def Zz(F:F3)(g:eQ):E3:=λenv M=>(g env M).bind λds M1=>F ds M1
section
local instance (priority:=100000) AeY (p:Prop):Decidable p:=Y0 p
noncomputable def aN(a b:D)(M:Store):R3 D:=match a,b with
 | .int i,.int j=>.ok (.int (i+j)) M|.str x,.str y=>if x.length+y.length<=SZ then .ok (.str (x++y)) M else .bad|.tup x,.tup y=>if x.length+y.length<=SZ then .ok (.tup (x++y)) M else .bad|.ref n,.ref m=>match M[n]?,M[m]? with
  |some (.lst x),Ya (.lst y)=>if x.length+y.length<=SZ then alloc (.lst (x++y)) M else .bad|_,_=>.bad
 |_,_=>.bad
@[simp] theorem uH:∀i j,aN (.int i) (.int j) M= .ok (.int (i+j)) M:=λ_ _=>rfl
@[simp] theorem ZsP:∀x y,aN (.str x) (.str y) M=(if x.length+y.length<=SZ then .ok (.str (x++y)) M else .bad):=λ_ _=>rfl
@[simp] theorem Th:∀x y,aN (.tup x) (.tup y) M=(if x.length+y.length<=SZ then .ok (.tup (x++y)) M else .bad):=λ_ _=>rfl
@[simp] theorem ZsG:∀n m,aN (.ref n) (.ref m) M=(match M[n]?,M[m]? with
  |some (.lst x),Ya (.lst y)=>if x.length+y.length<=SZ then alloc (.lst (x++y)) M else .bad|_,_=>.bad):=λ_ _=>rfl
end
noncomputable def iH(a b:D)(M:Store):R3 D:=match a,b with
 | .int i,.int j=>.ok (.int (i-j)) M|_,_=>.bad
@[simp] theorem Ti:∀i j,iH (.int i) (.int j) M= .ok (.int (i-j)) M:=λ_ _=>rfl
section
local instance (priority:=100000) AeZ (p:Prop):Decidable p:=Y0 p
noncomputable def mW(i j:Int):Bool:=(decide (-(2^64)<i)&&decide (i<2^64))|| (decide (-(2^64)<j)&&decide (j<2^64))
end
section
local instance (priority:=100000) Ae0 (p:Prop):Decidable p:=Y0 p
noncomputable def iW(a b:D)(M:Store):R3 D:=match a,b with
 | .int i,.int j=>if mW i j then .ok (.int (i*j)) M else .bad|.str x,.int k=>if x.length*k.toNat<=SZ/\k<1000000/\ -1000000<k then .ok (.str (Yr k.toNat x).flatten) M else .bad|.ref n,.int k=>match M[n]? with
  |some (.lst x)=>if x.length*k.toNat<=SZ/\k<1000000/\ -1000000<k then alloc (.lst (Yr k.toNat x).flatten) M else .bad|_=>.bad
 |_,_=>.bad
@[simp] theorem Zxv:∀i j,iW (.int i) (.int j) M=(if mW i j then .ok (.int (i*j)) M else .bad):=λ_ _=>rfl
@[simp] theorem Zrm:∀x k,iW (.str x) (.int k) M=(if x.length*k.toNat<=SZ/\k<1000000/\ -1000000<k then .ok (.str (Yr k.toNat x).flatten) M else .bad):=λ_ _=>rfl
@[simp] theorem Zyj:∀n k,iW (.ref n) (.int k) M=(match M[n]? with
  |some (.lst x)=>if x.length*k.toNat<=SZ/\k<1000000/\ -1000000<k then alloc (.lst (Yr k.toNat x).flatten) M else .bad|_=>.bad):=λ_ _=>rfl
end
noncomputable def aY(a b:D)(M:Store):R3 D:=match a,b with
 | .int i,.int j=>if 0<j then .ok (.int (i % j)) M else .bad|_,_=>.bad
@[simp] theorem Zmp:∀i j,aY (.int i) (.int j) M=(if 0<j then .ok (.int (i % j)) M else .bad):=λ_ _=>rfl
section
local instance (priority:=100000) Ae1 (p:Prop):Decidable p:=Y0 p
noncomputable def b8(a b:D)(M:Store):R3 D:=match a,b with
 | .int i,.int j=>if 0<j/\j<1073741824 then .ok (.int (i / j)) M else .bad|_,_=>.bad
@[simp] theorem Zk3:∀i j,b8 (.int i) (.int j) M=(if 0<j/\j<1073741824 then .ok (.int (i / j)) M else .bad):=λ_ _=>rfl
end
noncomputable def La(a b:D)(M:Store):R3 D:=match a,b with
 | .int i,.int j=>if 0<=j/\j<=1000/\i.natAbs<1000 then .ok (.int (i^j.toNat)) M else .bad|_,_=>.bad
@[simp] theorem ZmS:∀i j,La (.int i) (.int j) M=(if 0<=j/\j<=1000/\i.natAbs<1000 then .ok (.int (i^j.toNat)) M else .bad):=λ_ _=>rfl
noncomputable def cL(a:D)(M:Store):R3 D:=match a with
 | .int i=>.ok (.int (-i)) M|_=>.bad
@[simp] theorem yF:∀i,cL (.int i) M= .ok (.int (-i)) M:=λ_=>rfl
noncomputable def fQ(a b:D)(M:Store):R3 D:=match a,b with
 | .int i,.int j=>.ok (.bl (decide (i<j))) M|_,_=>.bad
@[simp] theorem nY:∀i j,fQ (.int i) (.int j) M= .ok (.bl (decide (i<j))) M:=λ_ _=>rfl
noncomputable def o5(a b:D)(M:Store):R3 D:=match a,b with
 | .int i,.int j=>.ok (.bl (decide (i<=j))) M|_,_=>.bad
@[simp] theorem Tj:∀i j,o5 (.int i) (.int j) M= .ok (.bl (decide (i<=j))) M:=λ_ _=>rfl
noncomputable def cX(a b:D)(M:Store):R3 D:=match a,b with
 | .int i,.int j=>.ok (.bl (decide (j<i))) M|_,_=>.bad
@[simp] theorem jP:∀i j,cX (.int i) (.int j) M= .ok (.bl (decide (j<i))) M:=λ_ _=>rfl
noncomputable def qR(a b:D)(M:Store):Option Bool:=match a,b with
 | .ref n,.ref m=>match M[n]?,M[m]? with
  |some (.lst x),Ya (.lst y)=>if x.all (dF DEEP)&&y.all (dF DEEP)then Ya (iV x y)else Ym|_,_=>Ym
 | .int i,.int j=>Ya (decide (i=j))|.str x,.str y=>Ya (decide (x=y))|.bl x,.bl y=>Ya (decide (x=y))|.tup x,.tup y=>if x.all (dF DEEP)&&y.all (dF DEEP)then Ya (iV x y)else Ym
 |_,_=>Ym
@[simp] theorem Bw:∀n m,qR (.ref n) (.ref m) M=(match M[n]?,M[m]? with
  |some (.lst x),Ya (.lst y)=>if x.all (dF DEEP)&&y.all (dF DEEP)then Ya (iV x y)else Ym|_,_=>Ym):=λ_ _=>rfl
@[simp] theorem yG:∀i j,qR (.int i) (.int j) M=Ya (decide (i=j)):=λ_ _=>rfl
@[simp] theorem wC:∀x y,qR (.str x) (.str y) M=Ya (decide (x=y)):=λ_ _=>rfl
@[simp] theorem Lb:∀x y,qR (.bl x) (.bl y) M=Ya (decide (x=y)):=λ_ _=>rfl
@[simp] theorem Gu:∀x y,qR (.tup x) (.tup y) M=(if x.all (dF DEEP)&&y.all (dF DEEP)then Ya (iV x y)else Ym):=λ_ _=>rfl
@[simp] noncomputable def bh(a b:D)(M:Store):R3 D:=match qR a b M with
 |some r=>.ok (.bl r) M|none=>.bad
@[simp] noncomputable def fU(a b:D)(M:Store):R3 D:=match qR a b M with
 |some r=>.ok (.bl (!r)) M|none=>.bad
noncomputable def o6(a b:D)(M:Store):R3 D:=match b with
 | .non=>.ok (.bl (decide (a= .non))) M|_=>.bad
@[simp] theorem ZyA{a:D}:o6 a (.non) M= .ok (.bl (decide (a= .non))) M:=rfl
noncomputable def Gv(a b:D)(M:Store):R3 D:=match b with
 | .non=>.ok (.bl (!decide (a= .non))) M|_=>.bad
@[simp] theorem Zwv{a:D}:Gv a (.non) M= .ok (.bl (!decide (a= .non))) M:=rfl
noncomputable def cJ:D->Bool
 | .non=>true| .bl _=>true| .int _=>true| .str _=>true|_=>false
noncomputable def Tn(a:D)(y:List Nat):Option Bool:=match a with
 | .str [c]=>Ya (decide (c∈y))|_=>Ym
@[simp] theorem Zze{y:List Nat}:∀c,Tn (.str [c]) y=Ya (decide (c∈y)):=λ_=>rfl
noncomputable def inD(a b:D):Option Bool:=match b with
 | .str y=>Tn a y|.tup ys=>if cJ a&&ys.all cJ then Ya (ys.any λy=>dh y a)else Ym|_=>Ym
@[simp] theorem ZyL{a:D}:∀y,inD a (.str y)=Tn a y:=λ_=>rfl
@[simp] theorem Zww{a:D}:∀ys,inD a (.tup ys)=(if cJ a&&ys.all cJ then Ya (ys.any λy=>dh y a)else Ym):=λ_=>rfl
@[simp] noncomputable def mX(a b:D)(M:Store):R3 D:=match inD a b with
 |some r=>.ok (.bl r) M|none=>.bad
@[simp] noncomputable def Bx(a b:D)(M:Store):R3 D:=match inD a b with
 |some r=>.ok (.bl (!r)) M|none=>.bad
noncomputable def lW(n:Nat)(i:Int):Option Nat:=if 0<=i then(if i<n then Ya i.toNat else Ym)else if -(n:Int)<=i then Ya (i+n).toNat else Ym
noncomputable def g_{α:Type}(xs:List α)(i:Int):Option α:=(lW xs.length i).bind λj=>xs[j]?
noncomputable def Tp:D->Option g8
 | .int i=>Ya (.inl i)|.str x=>Ya (.inr x)|_=>Ym
noncomputable def Gw:List (g8×D)->g8->Option D
 |[],_=>Ym|(k,v)::r,x=>if k=x then Ya v else Gw r x
section
local instance (priority:=100000) Ae2 (p:Prop):Decidable p:=Y0 p
noncomputable def Zn(a b:D)(M:Store):R3 D:=match a,b with
 | .tup ds,.int i=>match g_ ds i with
  |some d=>.ok d M|none=>.bad
 | .bD ds,.int i=>match g_ ds i with
  |some d=>.ok d M|none=>.bad
 | .str x,.int i=>match g_ x i with
  |some c=>if x.length<=SZ then .ok (.str [c]) M else .bad|none=>.bad
 | .ref n,.int i=>match M[n]? with
  |some (.lst ds)=>match g_ ds i with
   |some d=>.ok d M|none=>.bad
  |_=>.bad
 |_,_=>.bad
@[simp] theorem Tq:∀ds i,Zn (.tup ds) (.int i) M=(match g_ ds i with
  |some d=>.ok d M|none=>.bad):=λ_ _=>rfl
@[simp] theorem Tr:∀ds i,Zn (.bD ds) (.int i) M=(match g_ ds i with
  |some d=>.ok d M|none=>.bad):=λ_ _=>rfl
@[simp] theorem Ld:∀x i,Zn (.str x) (.int i) M=(match g_ x i with
  |some c=>if x.length<=SZ then .ok (.str [c]) M else .bad|none=>.bad):=λ_ _=>rfl
@[simp] theorem Tt:∀n i,Zn (.ref n) (.int i) M=(match M[n]? with
  |some (.lst ds)=>match g_ ds i with
   |some d=>.ok d M|none=>.bad
  |_=>.bad):=λ_ _=>rfl
end
noncomputable def Zuz:Option MO->Option (List (g8×D))
 |some (.dct kvs)=>Ya kvs|some (.cV kvs)=>Ya kvs|_=>Ym
noncomputable def ZwI(a b:D)(M:Store):R3 D:=match a with
 | .ref n=>match Zuz M[n]?,Tp b with
  |some kvs,Ya x=>match Gw kvs x with
   |some d=>.ok d M|none=>.bad
  |_,_=>.bad
 |_=>.bad
@[simp] theorem Zw0{b:D}:∀n,ZwI (.ref n) b M=(match Zuz M[n]?,Tp b with
  |some kvs,Ya x=>match Gw kvs x with
   |some d=>.ok d M|none=>.bad
  |_,_=>.bad):=λ_=>rfl
noncomputable def aF(n d:Nat):Option Int->Nat
 |none=>d|some v=>if v<0 then(v+(n:Int)).toNat else jN v.toNat n
noncomputable def cutD{α:Type}(xs:List α)(lo hi:Option Int):List α:=(xs.drop (aF xs.length 0 lo)).take (aF xs.length xs.length hi-aF xs.length 0 lo)
noncomputable abbrev yH:=bK->Store->R3 (Option Int)
@[simp] noncomputable def fV:yH:=λ_ M=>.ok Ym M
@[simp] noncomputable def dG(f:E3):yH:=λenv M=>(f env M).bind λa M1=>match a with
 | .int i=>.ok (Ya i) M1|_=>.bad
section
local instance (priority:=100000) Ae3 (p:Prop):Decidable p:=Y0 p
noncomputable def yI(a:D)(lo hi:Option Int)(M:Store):R3 D:=match a with
 | .tup ds=>.ok (.tup (cutD ds lo hi)) M|.bD ds=>alloc (.lst (cutD ds lo hi)) M|.str x=>if x.length<=SZ then .ok (.str (cutD x lo hi)) M else .bad|.ref n=>match M[n]? with
  |some (.lst ds)=>alloc (.lst (cutD ds lo hi)) M|_=>.bad
 |_=>.bad
@[simp] theorem Gx:∀ds,yI (.tup ds) lo hi M= .ok (.tup (cutD ds lo hi)) M:=λ_=>rfl
@[simp] theorem Gy:∀ds,yI (.bD ds) lo hi M=alloc (.lst (cutD ds lo hi)) M:=λ_=>rfl
@[simp] theorem BJ:∀x,yI (.str x) lo hi M=(if x.length<=SZ then .ok (.str (cutD x lo hi)) M else .bad):=λ_=>rfl
@[simp] theorem BK:∀n,yI (.ref n) lo hi M=(match M[n]? with
  |some (.lst ds)=>alloc (.lst (cutD ds lo hi)) M|_=>.bad):=λ_=>rfl
end
@[simp] noncomputable def eU(f:E3)(lo hi:yH):E3:=λenv M=>(f env M).bind λa M1=>(lo env M1).bind λl M2=>(hi env M2).bind λh M3=>yI a l h M3
section
local instance (priority:=100000) Ae4 (p:Prop):Decidable p:=Y0 p
noncomputable def bx(ds:List D)(M:Store):R3 D:=match ds with
 |[.tup x]=>.ok (.int x.length) M|[.bD x]=>.ok (.int x.length) M|[.str x]=>if x.length<=SZ then .ok (.int x.length) M else .bad|[.ref n]=>match M[n]? with
  |some (.lst x)=>.ok (.int x.length) M|_=>.bad
 |_=>.bad
@[simp] theorem yJ:∀x,bx ([.tup x]) M= .ok (.int x.length) M:=λ_=>rfl
@[simp] theorem yK:∀x,bx ([.bD x]) M= .ok (.int x.length) M:=λ_=>rfl
@[simp] theorem yL:∀x,bx ([.str x]) M=(if x.length<=SZ then .ok (.int x.length) M else .bad):=λ_=>rfl
@[simp] theorem qT:∀n,bx ([.ref n]) M=(match M[n]? with
  |some (.lst x)=>.ok (.int x.length) M|_=>.bad):=λ_=>rfl
end
noncomputable def gC(ds:List D)(M:Store):R3 D:=match ds with
 |[.tup x]=>.ok (.tup x) M|[.bD x]=>.ok (.tup x) M|[.ref n]=>match M[n]? with
  |some (.lst x)=>.ok (.tup x) M|_=>.bad
 |_=>.bad
@[simp] theorem ZkJ:∀x,gC ([.tup x]) M= .ok (.tup x) M:=λ_=>rfl
@[simp] theorem ZkD:∀x,gC ([.bD x]) M= .ok (.tup x) M:=λ_=>rfl
@[simp] theorem BP:∀n,gC ([.ref n]) M=(match M[n]? with
  |some (.lst x)=>.ok (.tup x) M|_=>.bad):=λ_=>rfl
noncomputable def sO(ds:List D)(M:Store):R3 D:=match ds with
 |[.tup x]=>alloc (.lst x) M|[.bD x]=>alloc (.lst x) M|[.ref n]=>match M[n]? with
  |some (.lst x)=>alloc (.lst x) M|_=>.bad
 |_=>.bad
@[simp] theorem Zq3:∀x,sO ([.tup x]) M=alloc (.lst x) M:=λ_=>rfl
@[simp] theorem ZqZ:∀x,sO ([.bD x]) M=alloc (.lst x) M:=λ_=>rfl
@[simp] theorem Gz:∀n,sO ([.ref n]) M=(match M[n]? with
  |some (.lst x)=>alloc (.lst x) M|_=>.bad):=λ_=>rfl
inductive o4 where
 |int|bool|str|list|tuple
 deriving DecidableEq
noncomputable def lu(T:o4)(d:D)(M:Store):Option Bool:=match d with
 | .non=>Ya false|.bl _=>Ya (T== .bool|| T== .int)|.int _=>Ya (T== .int)|.str _=>Ya (T== .str)
 | .tup _=>Ya (T== .tuple)|.bD _=>Ym|.ref n=>match M[n]? with
  |some (.lst _)=>Ya (T== .list)|some (.dct _)=>Ya false|some (.cV _)=>Ym|some (.ins _ _)=>Ym
  |none=>Ym
@[simp] theorem Zo2:lu T (.non) M=Ya false:=rfl
@[simp] theorem Zpx:∀w0,lu T (.bl w0) M=Ya (T== .bool|| T== .int):=λ_=>rfl
@[simp] theorem ZoJ:∀w0,lu T (.int w0) M=Ya (T== .int):=λ_=>rfl
@[simp] theorem Zpc:∀w0,lu T (.str w0) M=Ya (T== .str):=λ_=>rfl
@[simp] theorem ZoM:∀w0,lu T (.tup w0) M=Ya (T== .tuple):=λ_=>rfl
@[simp] theorem Zpr:∀w0,lu T (.bD w0) M=Ym:=λ_=>rfl
@[simp] theorem ZoY:∀n,lu T (.ref n) M=(match M[n]? with
  |some (.lst _)=>Ya (T== .list)|some (.dct _)=>Ya false|some (.cV _)=>Ym|some (.ins _ _)=>Ym
  |none=>Ym):=λ_=>rfl
@[simp] noncomputable def jt(T:o4)(d:D)(M:Store):R3 D:=match lu T d M with
 |some b=>.ok (.bl b) M|none=>.bad
noncomputable def BR:D->Bool
 | .bl _=>true|_=>false
noncomputable def yM:D->Bool
 | .bl b=>b|_=>false
noncomputable def allB(l:List D):Option Bool:=if l.all BR then Ya (l.all yM)else Ym
noncomputable def sS(ds:List D)(M:Store):R3 D:=match ds with
 | [.ref n]=>match M[n]? with
  |some (.lst x)=>match allB x with
   |some b=>.ok (.bl b) M|none=>.bad
  |_=>.bad
 |_=>.bad
@[simp] theorem BV:∀n,sS ([.ref n]) M=(match M[n]? with
  |some (.lst x)=>match allB x with
   |some b=>.ok (.bl b) M|none=>.bad
  |_=>.bad):=λ_=>rfl
noncomputable def sU(o:D)(ds:List D)(M:Store):R3 D:=match o,ds with
 | .str x,[.str y]=>if x.length<=SZ/\y.length<=SZ then .ok (.bl (y.isPrefixOf x)) M else .bad|_,_=>.bad
@[simp] theorem GD:∀x y,sU (.str x) ([.str y]) M=(if x.length<=SZ/\y.length<=SZ then .ok (.bl (y.isPrefixOf x)) M else .bad):=λ_ _=>rfl
section
local instance (priority:=100000) AeS (p:Prop):Decidable p:=Y0 p
noncomputable def cu(o:D)(ds:List D)(M:Store):R3 D:=match o,ds with
 | .ref n,[d]=>match M[n]? with
  |some (.lst x)=>if x.length<SZ then .ok .non (M.set n (.lst (x++[d])))else .bad|_=>.bad
 |_,_=>.bad
@[simp] theorem Tu:∀n d,cu (.ref n) ([d]) M=(match M[n]? with
  |some (.lst x)=>if x.length<SZ then .ok .non (M.set n (.lst (x++[d])))else .bad|_=>.bad):=λ_ _=>rfl
end
section
local instance (priority:=100000) Ae5 (p:Prop):Decidable p:=Y0 p
noncomputable def pY(o:D)(ds:List D)(M:Store):R3 D:=match o,ds with
 | .ref n,[.int i]=>match M[n]? with
  | some (.lst x)=>if -1000000<=i/\i<=1000000 then match lW x.length i with
   |some k=>match x[k]? with
    |some d=>.ok d (M.set n (.lst (x.eraseIdx k)))|none=>.bad
   |none=>.bad
   else .bad
  |_=>.bad
 | .ref n,[]=>match M[n]? with
  |some (.lst x)=>match x[x.length-1]? with
   |some d=>.ok d (M.set n (.lst x.dropLast))|none=>.bad
  |_=>.bad
 |_,_=>.bad
@[simp] theorem Zo4:∀n i,pY (.ref n) ([.int i]) M=(match M[n]? with
  | some (.lst x)=>if -1000000<=i/\i<=1000000 then match lW x.length i with
   |some k=>match x[k]? with
    |some d=>.ok d (M.set n (.lst (x.eraseIdx k)))|none=>.bad
   |none=>.bad
   else .bad
  |_=>.bad):=λ_ _=>rfl
@[simp] theorem Tv:∀n,pY (.ref n) ([]) M=(match M[n]? with
  |some (.lst x)=>match x[x.length-1]? with
   |some d=>.ok d (M.set n (.lst x.dropLast))|none=>.bad
  |_=>.bad):=λ_=>rfl
end
noncomputable def fM(a:D)(_:Store):Bool:=match a with
 | .str _=>true|_=>false
@[simp] theorem ZwO{w_:Store}:∀w0,fM (.str w0) w_=true:=λ_=>rfl
noncomputable def bj(a:D)(M:Store):Bool:=match a with
 | .ref n=>match M[n]? with
  |some (.lst _)=>true|_=>false
 |_=>false
@[simp] theorem yN:∀n,bj (.ref n) M=(match M[n]? with
  |some (.lst _)=>true|_=>false):=λ_=>rfl
@[simp] noncomputable def aG(ty:D->Store->Bool)(m:D->List D->Store->R3 D)(o:E3)(g:eQ):E3:=λenv M=>(o env M).bind λa M1=>if ty a M1 then(g env M1).bind λds M2=>m a ds M2 else .bad
@[simp] noncomputable def aC(b:List D->Store->R3 D)(g:eQ):E3:=λenv M=>(g env M).bind λds M1=>b ds M1
noncomputable def putD(k:g8)(v:D)(kvs:List (g8×D)):List (g8×D):=if(kvs.any λp=>decide (p.1=k))=true then kvs.map (λp=>if p.1=k then(p.1,v)else p)else kvs++[(k,v)]
noncomputable def dictOf(l:List (g8×D)):List (g8×D):=l.foldl (λacc p=>putD p.1 p.2 acc) []
@[simp] noncomputable def e3(op:D->D->D->Store->R3 D)(f g h:E3):E3:=λenv M=>(f env M).bind λa M1=>(g env M1).bind λb M2=>(h env M2).bind λc M3=>op a b c M3
noncomputable def Tw(v a b:D)(M:Store):R3 D:=match a,b with
 | .ref n,.int i=>match M[n]? with
  |some (.lst xs)=>match lW xs.length i with
   |some j=>.ok .non (M.set n (.lst (xs.set j v)))|none=>.bad
  |_=>.bad
 |_,_=>.bad
@[simp] theorem Zkx{v:D}:∀n i,Tw v (.ref n) (.int i) M=(match M[n]? with
  |some (.lst xs)=>match lW xs.length i with
   |some j=>.ok .non (M.set n (.lst (xs.set j v)))|none=>.bad
  |_=>.bad):=λ_ _=>rfl
noncomputable def ZrC:List D->Option (List (g8×D))
 |[]=>Ya []|.tup [a,b]::r=>match Tp a with
  |some k=>(ZrC r).map λl=>(k,b)::l|none=>Ym
 |_::_=>Ym
noncomputable def GF(ds:List D)(M:Store):R3 D:=match ds with
 |[.int i]=>.ok (.int i) M|[.bl b]=>.ok (.int (if b then 1 else 0)) M|_=>.bad
@[simp] theorem ZyI:∀i,GF ([.int i]) M= .ok (.int i) M:=λ_=>rfl
@[simp] theorem Zyx:∀b,GF ([.bl b]) M= .ok (.int (if b then 1 else 0)) M:=λ_=>rfl
noncomputable def mY:List D->Option (List Int)
 |[]=>Ya []|.int i::r=>(mY r).map (i:: ·)|_::_=>Ym
noncomputable def aW:S3:=λenv M=>.nx env M
noncomputable def qU:S3:=λ_ _=>.bad
noncomputable def Zr(f g:S3):S3:=λenv M=>match f env M with
 | .nx env' M'=>g env' M'|o=>o
noncomputable def aK(c:E3)(f g:S3):S3:=λenv M=>match c env M with
 | .ok (.bl true) M1=>f env M1|.ok (.bl false) M1=>g env M1|.exc x M1=>.exc x M1|_=>.bad
noncomputable def aQ(f:E3):S3:=λenv M=>match f env M with
 | .ok d M1=>.rt d M1|.exc x M1=>.exc x M1|.bad=>.bad
noncomputable def aU(f:E3):S3:=λenv M=>match f env M with
 | .ok _ M1=>.nx env M1|.exc x M1=>.exc x M1|.bad=>.bad
noncomputable def aA(i:Nat)(f:E3):S3:=λenv M=>match f env M with
 | .ok d M1=>.nx (env.set i (Ya d)) M1|.exc x M1=>.exc x M1|.bad=>.bad
noncomputable def sV(o i f:E3):S3:=aU (e3 Tw f o i)
noncomputable def Tz:S3:=λenv M=>.bk env M
noncomputable abbrev G3:=D->bK->Option bK
@[simp] noncomputable def bA(i:Nat):G3:=λd env=>Ya (env.set i (Ya d))
noncomputable def bindAll:List Nat->List D->bK->Option bK
 |[],[],env=>Ya env|i::is,d::ds,env=>bindAll is ds (env.set i (Ya d))|_,_,_=>Ym
@[simp] theorem Le:∀env,bindAll ([]) ([]) (env)=Ya env:=λ_=>rfl
@[simp] theorem Lf:∀i is d ds env,bindAll (i::is) (d::ds) (env)=bindAll is ds (env.set i (Ya d)):=λ_ _ _ _ _=>rfl
@[simp] noncomputable def o7(is:List Nat):G3:=λd env=>match d with
 | .tup ds=>bindAll is ds env|_=>Ym
structure gm where
 items:List D
 lock:Option Nat
noncomputable abbrev I3:=bK->Store->R3 gm
section
local instance (priority:=100000) AeT (p:Prop):Decidable p:=Y0 p
@[simp] noncomputable def bZ(f:E3):I3:=λenv M=>(f env M).bind λa M1=>match a with
 | .tup ds=>.ok ⟨ds,Ym⟩ M1|.bD ds=>.ok ⟨ds,Ym⟩ M1|.str x=>if x.length<=SZ then .ok ⟨x.map λc=>.str [c],Ym⟩ M1 else .bad|.ref n=>match M1[n]? with
  |some (.lst ds)=>.ok ⟨ds,Ya n⟩ M1|_=>.bad
 |_=>.bad
end
noncomputable def mZ(lo:Int)(n:Nat):List D:=(iC n).map λ(k:Nat)=>D.int (lo+(k:Int))
section
local instance (priority:=100000) AeU (p:Prop):Decidable p:=Y0 p
@[simp] noncomputable def sW(f:E3):I3:=λenv M=>(f env M).bind λa M1=>match a with
 | .int j=>if j<=1000000/\ -1000000<=j then .ok ⟨mZ 0 j.toNat,Ym⟩ M1 else .bad|_=>.bad
end
noncomputable def locked(it:gm)(M:Store):Bool:=match it.lock with
 |none=>true|some n=>decide (M[n]?=Ya (.lst it.items))
noncomputable def dH(it:gm)(g:G3)(body:S3):List D->bK->Store->O3
 |[],env,M=>if locked it M then .nx env M else .bad|d::ds,env,M=>if locked it M then match g d env with
  |none=>.bad|some dR=>match body dR M with
   | .nx e M'=>dH it g body ds e M'|.ct e M'=>dH it g body ds e M'|.bk e M'=>.nx e M'|o=>o
  else .bad
theorem pZ{g:G3}{body:S3}:dH it g body [] env M=if locked it M then .nx env M else .bad:=rfl
theorem o8{g:G3}{body:S3}{d:D}{ds:List D}:dH it g body (d::ds) env M=if locked it M then match g d env with
  |none=>.bad|some dR=>match body dR M with
   | .nx e M'=>dH it g body ds e M'|.ct e M'=>dH it g body ds e M'|.bk e M'=>.nx e M'|o=>o
  else .bad:=rfl
noncomputable def lz(i:I3)(g:G3)(body:S3):S3:=λenv M=>match i env M with
 | .ok it M1=>dH it g body it.items env M1|.exc x M1=>.exc x M1|.bad=>.bad
noncomputable def sX(c:E3)(body:S3):Nat->bK->Store->O3
 |0,_,_=>.bad|n+1,env,M=>match c env M with
  | .ok (.bl true) M1=>match body env M1 with
   | .nx e M'=>sX c body n e M'|.ct e M'=>sX c body n e M'|.bk e M'=>.nx e M'|o=>o
  | .ok (.bl false) M1=>.nx env M1|.exc x M1=>.exc x M1|_=>.bad
theorem BW{c:E3}{body:S3}{n:Nat}:sX c body (n+1) env M=match c env M with
  | .ok (.bl true) M1=>match body env M1 with
   | .nx e M'=>sX c body n e M'|.ct e M'=>sX c body n e M'|.bk e M'=>.nx e M'|o=>o
  | .ok (.bl false) M1=>.nx env M1|.exc x M1=>.exc x M1|_=>.bad:=rfl
noncomputable def TF(c:E3)(body:S3):S3:=sX c body 1000000
noncomputable def uI:List E3->bK->Store->R3 Bool
 |[],_,M=>.ok true M|c::cs,env,M=>(c env M).bind λa M1=>match a with
  | .bl true=>uI cs env M1|.bl false=>.ok false M1|_=>.bad
theorem GJ:uI [] env M= .ok true M:=rfl
theorem GK{c:E3}{cs:List E3}:uI (c::cs) env M=(c env M).bind λa M1=>match a with
  | .bl true=>uI cs env M1|.bl false=>.ok false M1|_=>.bad:=rfl
section
local instance (priority:=100000) Abn (p:Prop):Decidable p:=Y0 p
noncomputable def jf(it:gm)(g:G3)(ifs:List E3)(elt:E3)(n:Nat):List D->bK->Store->R3 D
 |[],_,M=>if locked it M then .ok (.ref n) M else .bad|d::ds,env,M=>if locked it M then match g d env with
  |none=>.bad|some dR=>(uI ifs dR M).bind λb M1=>if b then(elt dR M1).bind λe M2=>match M2[n]? with
    |some (.lst x)=>if x.length<SZ then jf it g ifs elt n ds dR (M2.set n (.lst (x++[e])))else .bad|_=>.bad
   else jf it g ifs elt n ds dR M1
  else .bad
theorem TJ{g:G3}{ifs:List E3}{elt:E3}{n:Nat}:jf it g ifs elt n [] env M=if locked it M then .ok (.ref n) M else .bad:=rfl
theorem Lg{g:G3}{ifs:List E3}{elt:E3}{n:Nat}{d:D}{ds:List D}:jf it g ifs elt n (d::ds) env M=if locked it M then match g d env with
  |none=>.bad|some dR=>(uI ifs dR M).bind λb M1=>if b then(elt dR M1).bind λe M2=>match M2[n]? with
    |some (.lst x)=>if x.length<SZ then jf it g ifs elt n ds dR (M2.set n (.lst (x++[e])))else .bad|_=>.bad
   else jf it g ifs elt n ds dR M1
  else .bad:=rfl
end
noncomputable def fW(i:I3)(own:Nat)(g:G3)(ifs:List E3)(elt:E3):E3:=λenv M=>(i env M).bind λit M1=>jf it g ifs elt M1.length it.items (env++Yr own Ym) (M1++[.lst []])
noncomputable def wD(n:Nat):MO->Bool
 | .lst xs=>cj n xs|.dct kvs=>cj n (kvs.map (·.2))|.cV kvs=>cj n (kvs.map (·.2))|.ins _ fs=>cj n (fs.map (·.2))
noncomputable def eV(M:Store)(d:D)(M':Store):R3 D:=if below M.length d&&(decide (M'.take M.length=M)|| (M'.take M.length).all (wD M.length))then .ok d (M'.take M.length)else .ok d M'
noncomputable def bF(ps n:Nat)(body:S3):F3:=λds M=>if ds.length=ps then match body (ds.map Ya++Yr (n-ps) Ym) M with
  | .nx _ M'=>eV M .non M'|.rt d M'=>eV M d M'|.exc x M'=>.exc x M'|_=>.bad
 else .bad
end
end _L3
namespace _L3
variable{i n:Nat}
theorem ZqR{it:gm}{elt:E3}{R:D->D->Prop}{env0:bK}:∀(ds:List D) (acc:List D) (env:bK) (M:Store),(∀d,env.set i (Ya d)=env0.set i (Ya d)) ->
  (∀d∈ds,∀x,∃e,elt (env0.set i (Ya d)) (M.set n (.lst x))= .ok e (M.set n (.lst x))/\R d e)->(∀x,locked it (M.set n (.lst x))=true)->M[n]?=Ya (.lst acc)->acc.length+ds.length<=SZ ->
  ∃es,es.length=ds.length/\(∀(j:Nat) d e,ds[j]?=Ya d->es[j]?=Ya e->R d e)/\jf it (bA i) [] elt n ds env M= .ok (.ref n) (M.set n (.lst (acc++es))):=by
 intro ds
 induction ds with
 | nil=>
  intro acc env M _ _ hl hM _;have e:M.set n (.lst acc)=M:=by
   apply xU;intro j;by_cases hj:j=n
   .subst hj;rw[Yw (Ye.mp hM).1,hM]
   .rw[Yp (dw hj)]
  have hl':=hl acc;rw[e]at hl';exact⟨[],rfl,λj d e h=>by simp at h,by simp only[TJ,Lg,hl',if_true,kO,e]⟩
 | cons d ds ih=>
  intro acc env M he hf hl hM hz;have hn:n<M.length:=(Ye.mp hM).1;have e:M.set n (.lst acc)=M:=by
   apply xU;intro j;by_cases hj:j=n
   .subst hj;rw[Yw hn,hM]
   .rw[Yp (dw hj)]
  have hl':=hl acc;rw[e]at hl';obtain⟨v,hf',hR⟩:=hf d Yc acc;rw[e]at hf';have hz':acc.length<SZ:=by simp at hz ⊢;exact lB 1 0xf42405b01f42405ba1c0c01 T1 hz
  obtain⟨es,le,re,h⟩:=ih (acc++[v]) (env0.set i (Ya d)) (M.set n (.lst (acc++[v]))) (λd'=>by rw[vL]) (λd' hd' x=>by rw[vL];exact hf d' (Yd _ hd') x) (λx=>by rw[vL];exact hl x) (by rw[Yw hn]) (by simp at hz ⊢;exact lB 1 0xf42405b1a0cc0f42405ba1c0c01 T1 hz);refine⟨v::es,by simp[le],λj d' e' h1 h2=>?_,?_⟩
  .cases j with
   |zero=>simp at h1 h2;subst h1 h2;exact hR|succ j=>exact re j d' e' (by simpa using h1) (by simpa using h2)
  .simp only[Lg,hl',if_true,bA,he d,GJ,GK,R3.Aa4,hf',hM,hz'];rw[h,vL];simp
variable{env env':bK}{M M':Store}
theorem Zi{f g:S3}(h:f env M= .nx env' M'):Zr f g env M=g env' M':=by rw[Zr,h]
variable{d:D}
theorem qW{f g:S3}(h:f env M= .rt d M'):Zr f g env M= .rt d M':=by rw[Zr,h]
theorem fX{c:E3}{f g:S3}(h:c env M= .ok (.bl true) M'):aK c f g env M=f env M':=by rw[aK,h]
theorem o9{c:E3}{f g:S3}(h:c env M= .ok (.bl false) M'):aK c f g env M=g env M':=by rw[aK,h]
variable{f:E3}
theorem di(h:f env M= .ok d M'):aQ f env M= .rt d M':=by rw[aQ,h]
theorem Zq(h:f env M= .ok d M')(he:env.set i (Ya d)=env':=by first|(dsimp only[lK,lM]<;>exact rfl)|exact rfl):aA i f env M= .nx env' M':=by rw[aA,h];simp only[he]
theorem cY{c:E3}{f:S3}(h:c env M= .ok (.bl false) M'):aK c f aW env M= .nx env M':=by rw[aK,h];rfl
theorem p6(h:f env M= .ok d M'):aU f env M= .nx env M':=by rw[aU,h]
theorem qX{i:I3}{g:G3}{u:S3}{it:gm}(h:i env M= .ok it M'):lz i g u env M=dH it g u it.items env M':=by rw[lz,h]
theorem TQ{i:I3}{own:Nat}{g:G3}{ts:List E3}{it:gm}(h:i env M= .ok it M'):fW i own g ts f env M=jf it g ts f M'.length it.items (env++Yr own Ym) (M'++[.lst []]):=by rw[fW,h];rfl
variable{ds:List D}{body:S3}
theorem jQ{ps:Nat}(h:body env M= .rt d M')(hl:autoParam (ds.length=ps) qA)(he:autoParam (ds.map Ya++Yr (n-ps) Ym=env) qA):bF ps n body ds M=eV M d M':=by rw[bF,if_pos hl,he,h]
theorem GP{ps:Nat}(h:body env M= .nx env' M')(hl:autoParam (ds.length=ps) qA)(he:autoParam (ds.map Ya++Yr (n-ps) Ym=env) qA):bF ps n body ds M=eV M .non M':=by rw[bF,if_pos hl,he,h]
theorem Zsh{G:Store}(h:below M.length d=true):eV M d (M++G)= .ok d M:=by simp[eV,h]
theorem ZkP(h:below M.length d=true):eV M d M= .ok d M:=by simp[eV,h]
variable{α:Type}
theorem Zo(M:List α)(x:α)(xs:List α):(M++x::xs)[M.length]?=Ya x:=by simp
theorem sY(M xs:List α)(k:Nat):(M++xs)[M.length+k]?=xs[k]?:=by rw[xQ (jd _ _)];congr 1;exact Y1 (lC 1 2199589555233 T1 (Y9 (jd _ _))) (lC 1 2267788938241 T1 (gO _ _))
theorem GQ(M xs:List α)(k:Nat)(o:α):(M++xs).set (M.length+k) o=M++xs.set k o:=by rw[List.set_append_right _ _ (jd _ _)];congr 2;exact Y1 (lC 1 2199589555233 T1 (Y9 (jd _ _))) (lC 1 2267788938241 T1 (gO _ _))
theorem bL{M:List α}{o:α}(h:M[n]?=Ya o)(xs:List α):(M++xs)[n]?=Ya o:=by rw[Yj (Ye.mp h).1,h]
theorem gn(xs:List α)(k:Nat):g_ xs (k:Int)=xs[k]?:=by
 unfold g_ lW;rw[if_pos (FP k)];by_cases h:k<xs.length
 .rw[if_pos (J3.2 h)];simp
 .rw[if_neg (by exactλz=>iN [_,_] [] 2 6667149772945 T1 z h)];simp at h ⊢;exact h
@[simp] theorem Zw2(xs:List α)(k:Nat):g_ xs (k:Int)=xs[k]?:=gn xs k
@[simp] theorem ZxV(xs:List α)(n:Nat):g_ xs (no_index (FW n:Int))=xs[(FW n:Nat)]?:=gn xs n
@[simp] theorem Zxa(xs:List α):g_ xs (-1)=xs.getLast?:=by
 unfold g_ lW;rw[if_neg (by decide),List.getLast?_eq_getElem?];by_cases h:0<xs.length
 .rw[if_pos (by exact iN [_] [] 1 725993655825 T1 h)];simp only[ZS];congr 1;exact Y1 (iN [_,_,_] [] 2 0x200a2c10118a9c08a1 T1 (nU (iN [_] [] 1 595337940497 T1 h)) (gO _ _)) (iN [_,_,_] [] 2 0x1200a2c211808a9c81 T1 (v_ _) (Y9 (lA 1 10489361 T1 h)))
 .have:xs=[]:=by simpa using h
  subst this;rfl
theorem ZoB(n k:Nat):lW n (k:Int)=if k<n then Ya k else Ym:=by
 unfold lW;rw[if_pos (FP k)];by_cases h:k<n
 .rw[if_pos (J3.2 h),if_pos h];simp
 .rw[if_neg (by exactλz=>iN [_,_] [] 2 6667149772945 T1 z h),if_neg h]
@[simp] theorem Zxq(n k:Nat):lW n (k:Int)=if k<n then Ya k else Ym:=ZoB n k
@[simp] theorem ZyG(m n:Nat):lW m (no_index (FW n:Int))=if(FW n:Nat)<m then Ya (FW n:Nat)else Ym:=ZoB m n
theorem getD_last(xs:List α)(x:α):g_ (xs++[x]) (-1)=Ya x:=by
 unfold g_ lW;rw[if_neg (by decide),if_pos (by simp;exact iN [_] [] 0 10521768 T1)];have:(-1+((xs++[x]).length:Int)).toNat=xs.length:=by simp;exact Y1 (iN [_,_] [] 1 4514701222086817 T1 (nU (iN [_] [] 0 43097169128 T1))) (iN [_,_] [] 1 4505291991981185 T1 (v_ _))
 simp only[ZS,this];simp
theorem Zt9(xs:List α)(k:Nat)(h:xs.length<=k):cutD xs Ym (Ya (k:Int))=xs:=by unfold cutD aF;simp only[Js];rw[if_neg (by exactλz=>iN [_] [] 1 7211153 T1 z),rT (by simp;omega)]
inductive Row where
 |put (a:Nat) (n:Int)|add (a b c:Nat)|sub (a b c:Nat)|more (a b c:Nat)|get (a b:Nat)|set (a b:Nat)|jump (k:Nat)|when (a k:Nat)|tell (a:Nat)|halt
 deriving Inhabited
noncomputable def Row.ok(many:Nat):Row->Prop
 | .put a _=>a<8|.add a b c=>a<8/\b<8/\c<8|.sub a b c=>a<8/\b<8/\c<8|.more a b c=>a<8/\b<8/\c<8
 | .get a b=>a<8/\b<8|.set a b=>a<8/\b<8|.jump k=>k<many|.when a k=>a<8/\k<many
 | .tell a=>a<8|.halt=>True
noncomputable def Row.tells(bs:List Int):Row->Option Int
 | .tell a=>bs[a]?|_=>Ym
noncomputable def Row.rP:Row->Bool
 | .halt=>true|_=>false
variable{a:Nat}
@[simp] theorem Zw8{n:Int}{bs:List Int}:(Row.put a n).tells bs=Ym:=rfl
@[simp] theorem ZwR{n:Int}:(Row.put a n).rP=false:=rfl
variable{c:Nat}
@[simp] theorem Zw5{b:Nat}{bs:List Int}:(Row.add a b c).tells bs=Ym:=rfl
@[simp] theorem Zwz{b:Nat}:(Row.add a b c).rP=false:=rfl
@[simp] theorem Zxb{b:Nat}{bs:List Int}:(Row.sub a b c).tells bs=Ym:=rfl
@[simp] theorem ZwM{b:Nat}:(Row.sub a b c).rP=false:=rfl
@[simp] theorem Zu2{b:Nat}{bs:List Int}:(Row.more a b c).tells bs=Ym:=rfl
@[simp] theorem Zur{b:Nat}:(Row.more a b c).rP=false:=rfl
@[simp] theorem Zw9{b:Nat}{bs:List Int}:(Row.get a b).tells bs=Ym:=rfl
@[simp] theorem Zve{b:Nat}:(Row.get a b).rP=false:=rfl
@[simp] theorem Zw3{b:Nat}{bs:List Int}:(Row.set a b).tells bs=Ym:=rfl
@[simp] theorem Zwk{b:Nat}:(Row.set a b).rP=false:=rfl
@[simp] theorem Zwi{k:Nat}{bs:List Int}:(Row.jump k).tells bs=Ym:=rfl
@[simp] theorem ZuI{k:Nat}:(Row.jump k).rP=false:=rfl
@[simp] theorem Zwe{k:Nat}{bs:List Int}:(Row.when a k).tells bs=Ym:=rfl
@[simp] theorem Zuu{k:Nat}:(Row.when a k).rP=false:=rfl
@[simp] theorem ZwK{bs:List Int}:(Row.tell a).tells bs=bs[a]?:=rfl
@[simp] theorem ZuL:(Row.tell a).rP=false:=rfl
@[simp] theorem Zvh{bs:List Int}:(Row.halt).tells bs=Ym:=rfl
@[simp] theorem Zuv :(Row.halt).rP=true:=rfl
mutual
theorem Zqi:∀(n:Nat) (d:D),dF n d=true->dh d d=true
 |_,.non,_=>rfl|_,.bl b,_=>beq_self_eq_true b|_,.int b,_=>beq_self_eq_true b|_,.str b,_=>beq_self_eq_true b
 |0,.tup _,h=>ft h|n+1,.tup ds,h=>ZjS n ds (iw.mp h)|n,.bD _,h=>by cases n<;>exact ft h|n,.ref _,h=>by cases n<;>exact ft h
theorem ZjS:∀(n:Nat) (ds:List D),(∀d∈ds,dF n d=true)->iV ds ds=true
 |_,[],_=>rfl|n,d::ds,h=>by simp only[Zvk,Te,Y6];exact⟨Zqi n d (h d Yc),ZjS n ds λx hx=>h x (Yd _ hx)⟩
end
def Rt(o:O3)(d:D):Prop:=∃M',o= .rt d M'
theorem Rt.set{g:S3}{r:D}(h:f env M= .ok d M')(k:Rt (g env' M') r)(he:env.set i (Ya d)=env':=by first|(dsimp only[lK,lM]<;>exact rfl)|exact rfl):Rt (Zr (aA i f) g env M) r:=by rw[Rt,Zi (Zq h he)];exact k
theorem Rt.expr{g:S3}{r:D}(h:f env M= .ok d M')(k:Rt (g env M') r):Rt (Zr (aU f) g env M) r:=by rw[Rt,Zi (p6 h)];exact k
theorem Rt.skip{c:E3}{u g:S3}{r:D}(h:c env M= .ok (.bl false) M')(k:Rt (g env M') r):Rt (Zr (aK c u aW) g env M) r:=by rw[Rt,Zi (cY h)];exact k
theorem Rt.loop{i:I3}{t:G3}{u g:S3}{M M' M1:Store}{it:gm}{r:D}(h:i env M= .ok it M1)(hl:dH it t u it.items env M1= .nx env' M')(k:Rt (g env' M') r):Rt (Zr (lz i t u) g env M) r:=by rw[Rt,Zi ((qX h).trans hl)];exact k
theorem Rt.step{f g:S3}{r:D}(h:f env M= .nx env' M')(k:Rt (g env' M') r):Rt (Zr f g env M) r:=by rw[Rt,Zi h];exact k
theorem Rt.law{ps:Nat}{b:Bool}(h:Rt (body env []) (.bl b))(hl:autoParam (ds.length=ps) qA)(he:autoParam (ds.map Ya++Yr (n-ps) Ym=env) qA):∃M',bF ps n body ds []= .ok (.bl b) M':=by obtain⟨M',h⟩:=h;exact⟨_,(jQ h hl he).trans (by rw[eV,if_pos (by simp[below])])⟩
theorem Rt.pure{ps:Nat}{G:Store}(h:body env M= .rt d (M++G))(hd:below M.length d=true)(hl:autoParam (ds.length=ps) qA)(he:autoParam (ds.map Ya++Yr (n-ps) Ym=env) qA):bF ps n body ds M= .ok d M:=(jQ h hl he).trans (Zsh hd)
variable{g:E3}
theorem Zh{op:D->D->Store->R3 D}{M M1 M2 M3:Store}{a b d:D}(h1:f env M= .ok a M1)(h2:g env M1= .ok b M2)(h3:op a b M2= .ok d M3):e2 op f g env M= .ok d M3:=by simp only[e2,h1,h2,h3,R3.bind]
variable{F:F3}
theorem dJ{M M1 M2:Store}{a:D}(h1:f env M= .ok a M1)(h2:F [a] M1= .ok d M2):Zz F (Zb f Zf) env M= .ok d M2:=by simp only[Zz,Zb,Zf,h1,h2,R3.bind]
theorem qY{M M1 M2 M3:Store}{a b d:D}(h1:f env M= .ok a M1)(h2:g env M1= .ok b M2)(h3:F [a,b] M2= .ok d M3):Zz F (Zb f (Zb g Zf)) env M= .ok d M3:=by simp only[Zz,Zb,Zf,h1,h2,h3,R3.bind]
theorem Zvd{h:E3}{M M1 M2 M3 M4:Store}{a b c d:D}(h1:f env M= .ok a M1)(h2:g env M1= .ok b M2)(h3:h env M2= .ok c M3)(h4:F [a,b,c] M3= .ok d M4):Zz F (Zb f (Zb g (Zb h Zf))) env M= .ok d M4:=by simp only[Zz,Zb,Zf,h1,h2,h3,h4,R3.bind]
@[simp] theorem ZyX(a b:o4):(a==b)=decide (a=b):=by cases a<;>cases b<;>rfl
theorem GR{f g h k:E3}{M M1 M2 M3 M4 M5:Store}{a b c d e:D}(h1:f env M= .ok a M1)(h2:g env M1= .ok b M2)(h3:h env M2= .ok c M3)(h4:k env M3= .ok d M4)(h5:F [a,b,c,d] M4= .ok e M5):Zz F (Zb f (Zb g (Zb h (Zb k Zf)))) env M= .ok e M5:=by simp only[Zz,Zb,Zf,h1,h2,h3,h4,h5,R3.bind]
theorem cC{b:List D->Store->R3 D}{M M1 M2:Store}{a:D}(h1:f env M= .ok a M1)(h2:b [a] M1= .ok d M2):aC b (Zb f Zf) env M= .ok d M2:=by simp only[aC,Zb,Zf,h1,h2,R3.bind]
theorem dM{op:D->Store->R3 D}{M M1 M2:Store}{a:D}(h1:f env M= .ok a M1)(h2:op a M1= .ok d M2):e1 op f env M= .ok d M2:=by simp only[e1,h1,h2,R3.bind]
theorem Zt{g:eQ}{M M1 M2:Store}(h1:f env M= .ok d M1)(h2:g env M1= .ok ds M2):Zb f g env M= .ok (d::ds) M2:=by simp only[Zb,h1,h2,R3.bind]
theorem gP{g:eQ}(h:g env M= .ok ds M')(hl:decide (ds.length<=100)=true):bY g env M= .ok (.tup ds) M':=by have:=of_decide_eq_true hl;simp only[bY,h,R3.bind];rw[if_pos (Yi this (by decide))]
variable{xs:List D}
theorem m5(h:M[n]?=Ya (.lst xs)):bx [.ref n] M= .ok (.int (xs.length:Int)) M:=by simp only[yJ,yK,yL,qT,h]
theorem nZ(h:M[n]?=Ya (.lst xs)):gC [.ref n] M= .ok (.tup xs) M:=by simp only[ZkJ,ZkD,BP,h]
theorem iY{i:Int}(h:M[n]?=Ya (.lst xs))(hd:g_ xs i=Ya d):Zn (.ref n) (.int i) M= .ok d M:=by simp only[Tq,Tr,Ld,Tt,h,hd]
theorem yO{i:Int}(hd:g_ xs i=Ya d):Zn (.tup xs) (.int i) M= .ok d M:=by simp only[Tq,Tr,Ld,Tt,hd]
theorem Lh{a b:Int}(h:a<=b):o5 (.int a) (.int b) M= .ok (.bl true) M:=by simp only[Tj,decide_eq_true h]
theorem Zzn{a b:Int}(h:¬a<=b):o5 (.int a) (.int b) M= .ok (.bl false) M:=by simp only[Tj,decide_eq_false h]
theorem wF{a b:Int}(h:a=b):bh (.int a) (.int b) M= .ok (.bl true) M:=by simp only[bh,Bw,yG,wC,Lb,Gu,decide_eq_true h]
theorem BX{a b:Int}(h:¬a=b):bh (.int a) (.int b) M= .ok (.bl false) M:=by simp only[bh,Bw,yG,wC,Lb,Gu,decide_eq_false h]
theorem Zzf{a b:List Nat}(h:¬a=b):fU (.str a) (.str b) M= .ok (.bl true) M:=by simp only[fU,Bw,yG,wC,Lb,Gu,decide_eq_false h];rfl
theorem Zyr{a b:List Nat}(h:a=b):fU (.str a) (.str b) M= .ok (.bl false) M:=by simp only[fU,Bw,yG,wC,Lb,Gu,decide_eq_true h];rfl
theorem gD{i j:Int}(h:0<j):aY (.int i) (.int j) M= .ok (.int (i % j)) M:=by simp only[Zmp,if_pos h]
theorem n6{M M1:Store}(h1:f env M= .ok (.bl false) M1):fH f g env M=g env M1:=by simp only[fH,h1,R3.bind]
theorem GX{M M1:Store}(h1:f env M= .ok (.bl true) M1):fH f g env M= .ok (.bl true) M1:=by simp only[fH,h1,R3.bind]
theorem h_{M M1:Store}(h1:f env M= .ok (.bl true) M1):bN f g env M=g env M1:=by simp only[bN,h1,R3.bind]
theorem lX{M M1:Store}(h1:f env M= .ok (.bl false) M1):bN f g env M= .ok (.bl false) M1:=by simp only[bN,h1,R3.bind]
theorem BZ{c:E3}{M M1:Store}(h1:c env M= .ok (.bl true) M1):kh c f g env M=f env M1:=by simp only[kh,h1,R3.bind]
theorem B_{c:E3}{M M1:Store}(h1:c env M= .ok (.bl false) M1):kh c f g env M=g env M1:=by simp only[kh,h1,R3.bind]
theorem sZ{enc:α->D}{h:α->D}{own:Nat}{it:I3}{elt:E3}{M M1:Store}{lock:Option Nat}{as:List α}(hi:it env M= .ok ⟨as.map enc,lock⟩ M1)(Ph:∀n,lock=Ya n->M1[n]?=Ya (.lst (as.map enc)))(he:∀a∈as,∀M,elt ((env++Yr own Ym).set i (Ya (enc a))) M= .ok (h a) M)(hz:as.length<=100000):fW it own (bA i) [] elt env M= .ok (.ref M1.length) (M1++[.lst (as.map h)]):=by
 rw [TQ hi];obtain⟨es,le,re,hh⟩:=ZqR (it:=⟨as.map enc,lock⟩) (i:=i) (n:=M1.length) (elt:=elt) (R:=λd e=>∀a∈as,d=enc a->e=h a) (env0:=env++Yr own Ym) (as.map enc) [] (env++Yr own Ym) (M1++[.lst []]) (λ_=>rfl)
  (λd hd x=>by obtain⟨a,ha,rfl⟩:=dZ.mp hd;refine⟨h a,he a ha _,λb hb e=>?_⟩;have h1:=he a ha [];have h2:=he b hb [];rw[e,h2]at h1;injection h1 with h1 _;exact h1.symm)
  (λx=>by
   cases lock with
   |none=>rfl|some n=>have hn:=Ph n rfl;have hlt:=(Ye.mp hn).1;simp only[locked,decide_eq_true_eq];rw[Yp (by exactλz=>lB 2 25787699233 T1 z hlt),Yj hlt,hn]) (by simp) (by simp;exact lA 1 0xf42405b00186a05b001 T1 hz)
 rw [show(⟨as.map enc,lock⟩:gm).items=as.map enc from rfl,hh];have:es=as.map h:=by
  apply xU;intro j;rw[lO];cases ha:as[j]? with
  |none=>
   have:as.length<=j:=by simpa using ha
   simp[le];exact this
  | some a=>
   have hj:j<es.length:=by have:=(Ye.mp ha).1;simpa[le]using this
   have h2:=re j (enc a) es[j] (by simp[ha]) (by simp[hj]) a (xT ha) rfl;rw[Y3 hj,h2];rfl
 rw[this];simp
noncomputable def Zta(cs:List (Int×Int))(n v:Int):List (Int×Int):=cs.filter (λc=>decide (c.1<n))++(if v≠0 then[(n,v)]else[])++cs.filter (λc=>decide (n<c.1))
noncomputable def Row.cells(bs:List Int)(cs:List (Int×Int)):Row->List (Int×Int)
 | .set a b=>Zta cs (bs.getD a 0) (bs.getD b 0)|_=>cs
noncomputable def gF(i:Int):List Nat:=(PySem.Str.ofString (FZ i)).cps.toList
noncomputable section
local instance (priority:=100000) Ae6 (p:Prop):Decidable p:=Y0 p
noncomputable def tu(ds:List D)(M:Store):R3 D:=match ds with
 |[.int i]=>if i.natAbs.log2<1920 then .ok (.str (gF i)) M else .bad|[.str x]=>.ok (.str x) M|_=>.bad
@[simp] theorem ZoZ:∀i,tu ([.int i]) M=(if i.natAbs.log2<1920 then .ok (.str (gF i)) M else .bad):=λ_=>rfl
@[simp] theorem Zuh:∀x,tu ([.str x]) M= .ok (.str x) M:=λ_=>rfl
noncomputable def iI:List D->Option (List (List Nat))
 |[]=>Ya []|.str x::ds=>(iI ds).map (x:: ·)|_=>Ym
noncomputable def glue(sep:List Nat):List (List Nat)->List Nat
 |[]=>[]|[x]=>x|x::y::xs=>x++sep++glue sep (y::xs)
noncomputable def lG(sep:List Nat)(ts:List (List Nat)):Nat:=(ts.map λt=>t.length+sep.length).sum
noncomputable def uJ(o:D)(ds:List D)(M:Store):R3 D:=match o,ds with
 | .str sep,[.ref n]=>match M[n]? with
  |some (.lst x)=>match iI x with
   |some ts=>if lG sep ts<=SZ then .ok (.str (glue sep ts)) M else .bad|none=>.bad
  |_=>.bad
 |_,_=>.bad
@[simp] theorem Zmz:∀sep n,uJ (.str sep) ([.ref n]) M=(match M[n]? with
  |some (.lst x)=>match iI x with
   |some ts=>if lG sep ts<=SZ then .ok (.str (glue sep ts)) M else .bad|none=>.bad
  |_=>.bad):=λ_ _=>rfl
noncomputable def o_(x y:List Nat):List (List Nat):=(Yl8 ⟨x.toArray⟩ ⟨y.toArray⟩).map λt=>t.cps.toList
noncomputable def p7(o:D)(ds:List D)(M:Store):R3 D:=match o,ds with
 | .str x,[.str y]=>if 0<y.length/\x.length+2<=SZ then alloc (.lst ((o_ x y).map D.str)) M else .bad|_,_=>.bad
@[simp] theorem ZkN:∀x y,p7 (.str x) ([.str y]) M=(if 0<y.length/\x.length+2<=SZ then alloc (.lst ((o_ x y).map D.str)) M else .bad):=λ_ _=>rfl
noncomputable def uK(ds:List D)(M:Store):R3 D:=match ds with
 |[.str x]=>match Jz ⟨x.toArray⟩with
  |some n=>if x.length<=640 then .ok (.int n) M else .bad|none=>.bad
 |ds=>GF ds M
@[simp] theorem ZrP:∀x,uK ([.str x]) M=(match Jz ⟨x.toArray⟩with
  |some n=>if x.length<=640 then .ok (.int n) M else .bad|none=>.bad):=λ_=>rfl
@[simp] theorem ZqP:∀i,uK [.int i] M= .ok (.int i) M:=λ_=>rfl
@[simp] theorem ZxX:∀b,uK [.bl b] M=GF [.bl b] M:=λ_=>rfl
@[simp] noncomputable def GZ(T1 T2:o4)(d:D)(M:Store):R3 D:=match lu T1 d M,lu T2 d M with
 |some a,Ya b=>.ok (.bl (a|| b)) M|_,_=>.bad
end
noncomputable section
noncomputable def Ae7(f:E3)(g:G3):S3:=λenv M=>match f env M with
 | .ok d M1=>match g d env with
  |some dR=>.nx dR M1|none=>.bad
 | .exc x M1=>.exc x M1|.bad=>.bad
structure G4 where
 items:List D
 lk:List (Nat×List D)
noncomputable def jR(lk:List (Nat×List D))(M:Store):Bool:=lk.all λq=>decide (M[q.1]?=Ya (.lst q.2))
noncomputable abbrev yP:=bK->Store->R3 G4
noncomputable def m9:Nat->List D->List D
 |_,[]=>[]|k,d::ds=>.tup [.int k,d]::m9 (k+1) ds
@[simp] noncomputable def TV(f:E3):yP:=λenv M=>(f env M).bind λa M1=>match a with
 | .tup ds=>.ok ⟨m9 0 ds,[]⟩ M1|.ref n=>match M1[n]? with
  |some (.lst ds)=>.ok ⟨m9 0 ds,[(n,ds)]⟩ M1|_=>.bad
 |_=>.bad
noncomputable def qZ(f:E3)(is:List Nat):S3:=λenv M=>match f env M with
 | .ok (.ref n) M1=>(match M1[n]? with
  |some (.lst ds)=>(match bindAll is ds env with
   |some dR=>.nx dR M1|none=>.bad)
  |_=>.bad)
 |_=>.bad
noncomputable def q8(a b:D)(M:Store):R3 D:=match b with
 | .ref n=>match M[n]? with
  |some (.lst ys)=>if cJ a&&ys.all cJ then .ok (.bl (ys.any λy=>dh y a)) M else .bad|_=>.bad
 |_=>.bad
@[simp] theorem ZmX{a:D}:∀n,q8 a (.ref n) M=(match M[n]? with
  |some (.lst ys)=>if cJ a&&ys.all cJ then .ok (.bl (ys.any λy=>dh y a)) M else .bad|_=>.bad):=λ_=>rfl
theorem Li:∀(k:Nat) (ds:List D) (i:Nat),(m9 k ds)[i]?=(ds[i]?).map λd=>.tup [.int ((k+i:Nat):Int),d]
 |_,[],_=>by simp[m9]|k,d::ds,0=>by simp[m9]|k,d::ds,i+1=>by simp only[m9,Fd,Li (k+1) ds i];rw[show k+1+i=k+(i+1)by exact Y1 (lB 0 0xa1c0c1a0cc0 T1) (lB 0 1790139547840 T1)]
theorem Lj:∀(k:Nat) (ds:List D),(m9 k ds).length=ds.length
 |_,[]=>rfl|k,d::ds=>by simp[m9,Lj (k+1) ds]
end
noncomputable section
noncomputable def TX:List D->List D->List D
 |a::x,b::y=>.tup [a,b]::TX x y|_,_=>[]
@[simp] noncomputable def Zz4(f g:E3):yP:=λenv M=>(f env M).bind λa M1=>(g env M1).bind λb M2=>match a,b with
 | .ref n,.ref m=>match M2[n]?,M2[m]? with
  |some (.lst x),Ya (.lst y)=>.ok ⟨TX x y,[(n,x),(m,y)]⟩ M2|_,_=>.bad
 |_,_=>.bad
section
local instance (priority:=100000) Ae8 (p:Prop):Decidable p:=Y0 p
noncomputable def jT(lk:List (Nat×List D))(g:G3)(ifs:List E3)(elt:E3)(n:Nat):List D->bK->Store->R3 D
 |[],_,M=>if jR lk M then .ok (.ref n) M else .bad|d::ds,env,M=>if jR lk M then match g d env with
  |none=>.bad|some dR=>(uI ifs dR M).bind λb M1=>if b then(elt dR M1).bind λv M2=>match M2[n]? with
    |some (.lst xs)=>if xs.length<SZ then jT lk g ifs elt n ds dR (M2.set n (.lst (xs++[v])))else .bad|_=>.bad
   else jT lk g ifs elt n ds dR M1
  else .bad
end
noncomputable def wG(i:yP)(own:Nat)(g:G3)(ifs:List E3)(elt:E3):E3:=λenv M=>(i env M).bind λit M1=>jT it.lk g ifs elt M1.length it.items (env++Yr own Ym) (M1++[.lst []])
section
local instance (priority:=100000) Ae9 (p:Prop):Decidable p:=Y0 p
noncomputable def m_(o:D)(ds:List D)(M:Store):R3 D:=match o,ds with
 | .ref n,[.ref m]=>match M[n]?,M[m]? with
  |some (.lst x),Ya (.lst y)=>if n≠m/\x.length+y.length<=SZ then .ok .non (M.set n (.lst (x++y)))else .bad|_,_=>.bad
 | .ref n,[.tup y]=>match M[n]? with
  |some (.lst x)=>if x.length+y.length<=SZ then .ok .non (M.set n (.lst (x++y)))else .bad|_=>.bad
 |_,_=>.bad
@[simp] theorem yQ:∀n m,m_ (.ref n) ([.ref m]) M=(match M[n]?,M[m]? with
  |some (.lst x),Ya (.lst y)=>if n≠m/\x.length+y.length<=SZ then .ok .non (M.set n (.lst (x++y)))else .bad|_,_=>.bad):=λ_ _=>rfl
@[simp] theorem Ca:∀n y,m_ (.ref n) ([.tup y]) M=(match M[n]? with
  |some (.lst x)=>if x.length+y.length<=SZ then .ok .non (M.set n (.lst (x++y)))else .bad|_=>.bad):=λ_ _=>rfl
end
end
noncomputable section
end
noncomputable def wH(f:List Nat)(d:D):List (List Nat×D)->List (List Nat×D)
 |[]=>[(f,d)]|(g,x)::r=>if g=f then(g,d)::r else(g,x)::wH f d r
noncomputable def jU(c f:List Nat)(a:D)(M:Store):R3 D:=match a with
 | .ref n=>match M[n]? with
  |some (.ins c' fs)=>if c'=c then(match fs.lookup f with
   |some d=>.ok d M|none=>.bad)else .bad
  |_=>.bad
 |_=>.bad
@[simp] theorem Zno{c:List Nat}{f:List Nat}:∀n,jU c f (.ref n) M=(match M[n]? with
  |some (.ins c' fs)=>if c'=c then(match fs.lookup f with
   |some d=>.ok d M|none=>.bad)else .bad
  |_=>.bad):=λ_=>rfl
noncomputable def Zsf(c f:List Nat)(v a:D)(M:Store):R3 D:=match a with
 | .ref n=>match M[n]? with
  |some (.ins c' fs)=>if c'=c/\fs.length<1000 then .ok .non (M.set n (.ins c (wH f v fs)))else .bad|_=>.bad
 |_=>.bad
@[simp] theorem TY{c:List Nat}{f:List Nat}{v:D}:∀n,Zsf c f v (.ref n) M=(match M[n]? with
  |some (.ins c' fs)=>if c'=c/\fs.length<1000 then .ok .non (M.set n (.ins c (wH f v fs)))else .bad|_=>.bad):=λ_=>rfl
noncomputable def G5(c f:List Nat)(o v:E3):S3:=aU (e2 (Zsf c f) v o)
@[simp] noncomputable def Cd(c:List Nat)(F:F3)(g:eQ):E3:=λenv M=>(g env M).bind λds M1=>match F (.ref M1.length::ds) (M1++[.ins c []])with
 | .ok .non M2=>.ok (.ref M1.length) M2|_=>.bad
noncomputable section
end
noncomputable section
end
noncomputable section
noncomputable abbrev Lk:=List (List Nat×List (List Nat))
noncomputable def T3(f:E3):yP:=λenv M=>(f env M).bind λa M1=>match a with
 | .ref n=>match M1[n]? with
  |some (.lst ds)=>.ok ⟨m9 1 ds,[(n,ds)]⟩ M1|_=>.bad
 |_=>.bad
noncomputable def ZxZ(M:Store):D->Option (List D×List (Nat×List D))
 | .tup x=>Ya (x,[])|.ref n=>match M[n]? with
  |some (.lst x)=>Ya (x,[(n,x)])|_=>Ym
 |_=>Ym
end
noncomputable section
noncomputable abbrev lY:=List (List Nat×Int)
noncomputable def dD(x:List Nat):lY->Option Int
 |[]=>Ym|(k,v)::r=>if x=k then Ya v else dD x r
noncomputable def uM(t:lY)(d e:D)(M:Store):R3 D:=match d with
 | .str x=>match dD x t with
  |some i=>.ok (.int i) M|none=>.ok e M
 | .int _=>.ok e M|_=>.bad
noncomputable def Zy5(x y:List D)(M:Store):R3 D:=match ZrC (TX x y)with
 |some l=>if l.length<=100000 then alloc (.dct (dictOf l)) M else .bad|none=>.bad
noncomputable def Zyn(f g:E3):E3:=λenv M=>(f env M).bind λa M1=>(g env M1).bind λb M2=>match ZxZ M2 a,ZxZ M2 b with
 |some (x,_),Ya (y,_)=>Zy5 x y M2|_,_=>.bad
noncomputable def ZsF:D->Option (Nat×Int)
 | .tup [.ref n,.int i]=>Ya (n,i)|_=>Ym
noncomputable def Zzv(x y:List D)(r:Bool)(M:Store):R3 D:=if x.all (dF 50)=true/\y.all (dF 50)=true then .ok (.bl (iV x y&&r)) M else .bad
noncomputable def ZzU(a b:D)(M:Store):R3 D:=match ZsF a,ZsF b with
 |some (n,i),Ya (m,j)=>match M[n]?,M[m]? with
  |some (.lst x),Ya (.lst y)=>if n=m then .bad else Zzv x y (i==j) M|_,_=>.bad
 |_,_=>.bad
noncomputable def uN(a b:D)(M:Store):R3 D:=match b with
 | .ref n=>match M[n]? with
  |some (.lst ys)=>if cJ a&&ys.all cJ then .ok (.bl (!ys.any λy=>dh y a)) M else .bad|_=>.bad
 |_=>.bad
end
noncomputable section
end
noncomputable section
local instance (priority:=100000) Afa (p:Prop):Decidable p:=Y0 p
end
open PySem PySem.Spec PyProof.Rows _L2
noncomputable abbrev St:=_L2.St
theorem kj:SZ<=bG:=by rw[Ao];decide
def p8(K:Yb)(H:Hp)(a:Y4)(xs:List V):Prop:=
 (∃o,H a=Ya (.gA o (.lst xs)))\/
  ∃(o:aP) (its:Array Yh) (n:Nat),K.lookup a=Ya o/\o.cls= .type "list" /\o.dict=Ym/\o.data= .seq its n/\its.size<=bG/\Vals xs its.toList
variable{K:Yb}{H:Hp}
theorem p8.sq{a:Y4}{xs:List V}(h:p8 K H a xs):bM K H a xs:=by
 rcases h with⟨o,h⟩|h
 .exact .inl (.inr ⟨o,h⟩)
 .exact .inr h
mutual
noncomputable def Rep(K:Yb)(H:Hp)(ι:List Y4):D->V->Prop
 | .non,v=>v= .non|.bl b,v=>v= .bl b|.int i,v=>v= .int i|.str x,v=>v= .str ⟨x.toArray⟩
 | .tup ds,v=>∃a vs,v= .ref a/\cW K H a vs/\au K H ι ds vs|.bD ds,v=>∃a vs,v= .ref a/\p8 K H a vs/\au K H ι ds vs|.ref n,v=>∃a,ι[n]?=Ya a/\v= .ref a
noncomputable def au(K:Yb)(H:Hp)(ι:List Y4):List D->List V->Prop
 |[],vs=>vs=[]|d::ds,vs=>∃v ws,vs=v::ws/\Rep K H ι d v/\au K H ι ds ws
end
structure Ext(K:Yb)(H:Hp)(ι:List Y4)(H':Hp)(ι':List Y4):Prop where
 tup:∀a xs,cW K H a xs->cW K H' a xs
 bD:∀a xs,p8 K H a xs->p8 K H' a xs
 pre:∀(n:Nat) (a:Y4),ι[n]?=Ya a->ι'[n]?=Ya a
 gA:∀a o u,H a=Ya (.gA o u)->H' a=Ya (.gA o u)
variable{vs:List V}{v:V}
section
variable {K:Yb} {H H' H1 H2:Hp} {ι ι' ι1 ι2:List Y4}
theorem Ext.refl:Ext K H ι H ι:=⟨λ_ _ h=>h,λ_ _ h=>h,λ_ _ h=>h,λ_ _ _ h=>h⟩
theorem Ext.trans(a:Ext K H ι H1 ι1)(b:Ext K H1 ι1 H2 ι2):Ext K H ι H2 ι2:=⟨λx xs h=>b.tup x xs (a.tup x xs h),λx xs h=>b.bD x xs (a.bD x xs h),λn x h=>b.pre n x (a.pre n x h),λx o u h=>b.gA x o u (a.gA x o u h)⟩
mutual
theorem Rep.mono(e:Ext K H ι H' ι'):∀{d:D} {v:V},Rep K H ι d v->Rep K H' ι' d v
 | .non,_,h=>h|.bl _,_,h=>h|.int _,_,h=>h|.str _,_,h=>h
 | .tup ds,_,h=>by obtain⟨a,vs,rfl,s,r⟩:=h;exact⟨a,vs,rfl,e.tup _ _ s,au.mono e (ds:=ds) r⟩|.bD ds,_,h=>by obtain⟨a,vs,rfl,s,r⟩:=h;exact⟨a,vs,rfl,e.bD _ _ s,au.mono e (ds:=ds) r⟩|.ref n,_,h=>by obtain⟨a,s,rfl⟩:=h;exact⟨a,e.pre _ _ s,rfl⟩
theorem au.mono(e:Ext K H ι H' ι'):∀{ds:List D} {vs:List V},au K H ι ds vs->au K H' ι' ds vs
 |[],_,h=>h|d::ds,_,h=>by obtain⟨v,ws,rfl,r,q⟩:=h;exact⟨v,ws,rfl,Rep.mono e (d:=d) r,au.mono e (ds:=ds) q⟩
end
mutual
theorem Rep.keep(ht:∀a xs,cW K H a xs->cW K H' a xs)(hs:∀a xs,p8 K H a xs->p8 K H' a xs):∀{d:D} {v:V},Rep K H ι d v->Rep K H' ι d v
 | .non,_,h=>h|.bl _,_,h=>h|.int _,_,h=>h|.str _,_,h=>h
 | .tup ds,_,h=>by obtain⟨a,vs,rfl,s,r⟩:=h;exact⟨a,vs,rfl,ht _ _ s,au.keep ht hs (ds:=ds) r⟩|.bD ds,_,h=>by obtain⟨a,vs,rfl,s,r⟩:=h;exact⟨a,vs,rfl,hs _ _ s,au.keep ht hs (ds:=ds) r⟩|.ref n,_,h=>h
theorem au.keep(ht:∀a xs,cW K H a xs->cW K H' a xs)(hs:∀a xs,p8 K H a xs->p8 K H' a xs):∀{ds:List D} {vs:List V},au K H ι ds vs->au K H' ι ds vs
 |[],_,h=>h|d::ds,_,h=>by obtain⟨v,ws,rfl,r,q⟩:=h;exact⟨v,ws,rfl,Rep.keep ht hs (d:=d) r,au.keep ht hs (ds:=ds) q⟩
end
theorem au.nil:au K H ι [] []:=rfl
theorem au.cons{d:D}{ds:List D}{v:V}{vs:List V}(h:Rep K H ι d v)(t:au K H ι ds vs):au K H ι (d::ds) (v::vs):=⟨v,vs,rfl,h,t⟩
theorem au.nil_inv(h:au K H ι [] vs):vs=[]:=h
theorem au.cons_inv(h:au K H ι (d::ds) vs):∃v ws,vs=v::ws/\Rep K H ι d v/\au K H ι ds ws:=h
theorem au.length:∀{ds:List D} {vs:List V},au K H ι ds vs->vs.length=ds.length
 |[],_,h=>by rw[h.nil_inv];rfl|d::ds,_,h=>by obtain⟨v,ws,rfl,_,q⟩:=h.cons_inv;exact congrArg Nat.succ q.length
theorem au.append:∀{ds es:List D} {vs ws:List V},au K H ι ds vs->au K H ι es ws->au K H ι (ds++es) (vs++ws)
 |[],_,_,_,h,q=>by rw[h.nil_inv];exact q|d::ds,_,_,_,h,q=>by obtain⟨v,us,rfl,r,t⟩:=h.cons_inv;exact au.cons r (t.append q)
theorem au.drop:∀{ds:List D} {vs:List V} (n:Nat),au K H ι ds vs->au K H ι (ds.drop n) (vs.drop n)
 |_,_,0,h=>h|[],_,n+1,h=>by rw[h.nil_inv];exact au.nil|d::ds,_,n+1,h=>by obtain⟨v,us,rfl,r,t⟩:=h.cons_inv;exact t.drop n
theorem au.take:∀{ds:List D} {vs:List V} (n:Nat),au K H ι ds vs->au K H ι (ds.take n) (vs.take n)
 |_,_,0,h=>au.nil|[],_,n+1,h=>by rw[h.nil_inv];exact au.nil|d::ds,_,n+1,h=>by obtain⟨v,us,rfl,r,t⟩:=h.cons_inv;exact au.cons r (t.take n)
theorem au.get:∀{ds:List D} {vs:List V} {i:Nat} {d:D},au K H ι ds vs->ds[i]?=Ya d->∃v,vs[i]?=Ya v/\Rep K H ι d v
 |[],_,_,_,_,e=>by simp at e|d::ds,_,0,_,h,e=>by obtain⟨v,us,rfl,r,t⟩:=h.cons_inv;simp at e;subst e;exact⟨v,rfl,r⟩
 |d::ds,_,i+1,_,h,e=>by obtain⟨v,us,rfl,r,t⟩:=h.cons_inv;obtain⟨w,q,z⟩:=t.get (i:=i) (by simpa using e);exact⟨w,by simpa using q,z⟩
theorem au.set:∀{ds:List D} {vs:List V} {d:D} {v:V} (i:Nat),au K H ι ds vs->Rep K H ι d v->au K H ι (ds.set i d) (vs.set i v)
 |[],_,_,_,_,h,_=>by rw[h.nil_inv];exact au.nil|d::ds,_,_,_,0,h,q=>by obtain⟨v,us,rfl,r,t⟩:=h.cons_inv;exact au.cons q t
 |d::ds,_,_,_,i+1,h,q=>by obtain⟨v,us,rfl,r,t⟩:=h.cons_inv;exact au.cons r (t.set i q)
theorem au.ints:∀(ns:List Int),au K H ι (ns.map D.int) (ns.map V.int)
 |[]=>au.nil|n::ns=>au.cons rfl (au.ints ns)
theorem Rep.jD(h:Rep K H ι .non v):v= .non:=h
theorem Rep.gY{b:Bool}(h:Rep K H ι (.bl b) v):v= .bl b:=h
theorem Rep.int_inv{i:Int}(h:Rep K H ι (.int i) v):v= .int i:=h
theorem Rep.str_inv{x:List Nat}(h:Rep K H ι (.str x) v):v= .str ⟨x.toArray⟩:=h
theorem Rep.ji(h:Rep K H ι (.tup ds) v):∃a vs,v= .ref a/\cW K H a vs/\au K H ι ds vs:=h
theorem Rep.tR(h:Rep K H ι (.bD ds) v):∃a vs,v= .ref a/\p8 K H a vs/\au K H ι ds vs:=h
theorem Rep.dX(h:Rep K H ι (.ref n) v):∃a,ι[n]?=Ya a/\v= .ref a:=h
theorem Rep.non:Rep K H ι .non .non:=rfl
theorem Rep.bl{b:Bool}:Rep K H ι (.bl b) (.bl b):=rfl
theorem Rep.int{i:Int}:Rep K H ι (.int i) (.int i):=rfl
theorem Rep.str{x:List Nat}:Rep K H ι (.str x) (.str ⟨x.toArray⟩):=rfl
theorem Rep.tup{a:Y4}{vs:List V}{ds:List D}(s:cW K H a vs)(r:au K H ι ds vs):Rep K H ι (.tup ds) (.ref a):=⟨a,vs,rfl,s,r⟩
theorem Rep.ref{a:Y4}(s:ι[n]?=Ya a):Rep K H ι (.ref n) (.ref a):=⟨a,s,rfl⟩
end
def ExO(e C:Y4)(h:aR):Prop:=∃o vs,h.get? e=Ya o/\o.cls= .ref C/\o.data= .fields vs
noncomputable abbrev exH(e C:Y4):HO:=.ext (ExO e C)
noncomputable def dk:g8->Key
 | .inl i=>.inl i|.inr x=>.inr ⟨x.toArray⟩
def dN(K:Yb)(H:Hp)(ι:List Y4)(kvs:List (g8×D))(ws:List (Key×V)):Prop:=ws.map (·.1)=kvs.map (λp=>dk p.1)/\au K H ι (kvs.map (·.2)) (ws.map (·.2))
def gG(K:Yb)(H:Hp)(ι:List Y4)(fs:List (List Nat×D))(gs:List (aj×V)):Prop:=gs.map (·.1)=fs.map (λp=>(⟨p.1.toArray⟩:aj))/\au K H ι (fs.map (·.2)) (gs.map (·.2))
def ClsAt(K:Yb)(c:List Nat)(C:Y4):Prop:=PySem.W.nsIn K Yx ⟨c.toArray⟩=Ya (Ya (.ref C))
noncomputable def ni(K:Yb)(H:Hp)(ι:List Y4):MO->Y4->Prop
 | .lst xs,a=>∃vs,H a=Ya (.lst vs)/\au K H ι xs vs|.dct kvs,a=>∃ws,H a=Ya (.dK ws)/\dN K H ι kvs ws|.cV kvs,a=>∃ws,(∃o,H a=Ya (.gA o (.dK ws)))/\dN K H ι kvs ws|.ins c fs,a=>(∃C dx gs,H a=Ya (.ins C dx gs)/\(ClsAt K c C/\c.head?≠Ya 0)/\gG K H ι fs gs)\/∃C,H a=Ya (exH a C)/\c.head?=Ya 0/\ClsAt K c.tail C/\fs=[]
structure aH(K:Yb)(H:Hp)(ι:List Y4)(M:Store):Prop where
 len:ι.length=M.length
 nd:ι.Nodup
 obj:∀(n:Nat) o a,M[n]?=Ya o->ι[n]?=Ya a->ni K H ι o a
def Loose(H:Hp)(p:Y4):Prop:=H p=Ym\/(∃vs,H p=Ya (.lst vs))\/(∃ws,H p=Ya (.dK ws))\/∃C dx gs,H p=Ya (.ins C dx gs)
variable{m:MO}
section
variable {K:Yb} {H H':Hp} {ι ι':List Y4} {M:Store} {p:Y4} {o:HO}
theorem Loose.ne{a:Y4}{u:HO}(l:Loose H p)(h:H a=Ya u)(h1:∀vs,u≠ .lst vs)(h2:∀ws,u≠ .dK ws)(h3:∀C dx gs,u≠ .ins C dx gs:=by exactλ_ _ _ z=>nomatch z):a≠p:=by
 rintro rfl;rcases l with l|⟨vs,l⟩|⟨ws,l⟩|⟨C,dx,gs,l⟩
 .rw[h]at l;cases l
 .rw[h]at l;exact h1 vs (Y2 l)
 .rw[h]at l;exact h2 ws (Y2 l)
 .rw[h]at l;exact h3 C dx gs (Y2 l)
theorem Loose.tup(l:Loose H p){a:Y4}{xs:List V}(h:cW K H a xs):cW K (upd H p o) a xs:=by
 rcases h with(h|⟨ob,h⟩)|h
 .exact .inl (.inl (by rw[gB (l.ne h (λ_ z=>nomatch z) (λ_ z=>nomatch z))];exact h))
 .exact .inl (.inr ⟨ob,by rw[gB (l.ne h (λ_ z=>nomatch z) (λ_ z=>nomatch z))];exact h⟩)
 .exact .inr h
theorem Loose.bD(l:Loose H p){a:Y4}{xs:List V}(h:p8 K H a xs):p8 K (upd H p o) a xs:=by
 rcases h with⟨ob,h⟩|h
 .exact .inl ⟨ob,by rw[gB (l.ne h (λ_ z=>nomatch z) (λ_ z=>nomatch z))];exact h⟩
 .exact .inr h
theorem Loose.gA(l:Loose H p){a:Y4}{ob:aP}{u:HO}(h:H a=Ya (.gA ob u)):upd H p o a=Ya (.gA ob u):=by rw[gB (l.ne h (λ_ z=>nomatch z) (λ_ z=>nomatch z))];exact h
theorem Loose.ext(l:Loose H p):Ext K H ι (upd H p o) ι:=⟨λ_ _ h=>l.tup h,λ_ _ h=>l.bD h,λ_ _ h=>h,λ_ _ _ h=>l.gA h⟩
theorem Loose.I_(l:Loose H p):Ext K H ι (upd H p o) (ι++[p]):=⟨λ_ _ h=>l.tup h,λ_ _ h=>l.bD h,λn a h=>by rw[Yj (Ye.mp h).1];exact h,λ_ _ _ h=>l.gA h⟩
theorem ni.mono{a:Y4}(e:Ext K H ι H' ι')(h:ni K H ι m a)(k:H' a=H a):ni K H' ι' m a:=by
 cases m with
 |lst xs=>obtain⟨vs,q,r⟩:=h;exact⟨vs,k.trans q,r.mono e⟩|dct kvs=>obtain⟨ws,q,r1,r2⟩:=h;exact⟨ws,k.trans q,r1,r2.mono e⟩|cV kvs=>obtain⟨ws,⟨o,q⟩,r1,r2⟩:=h;exact⟨ws,⟨o,k.trans q⟩,r1,r2.mono e⟩|ins c fs=>
  rcases h with⟨C,dx,gs,q,c,r1,r2⟩|⟨C,q,r⟩
  .exact .inl ⟨C,dx,gs,k.trans q,c,r1,r2.mono e⟩
  .exact .inr ⟨C,k.trans q,r⟩
theorem ni.ne{a:Y4}(h:ni K H ι m a):H a≠Ym:=by
 cases m with
 |lst xs=>obtain⟨vs,q,r⟩:=h;rw[q];simp|dct kvs=>obtain⟨ws,q,r⟩:=h;rw[q];simp|cV kvs=>obtain⟨ws,⟨o,q⟩,r⟩:=h;rw[q];simp|ins c fs=>rcases h with⟨C,dx,gs,q,r⟩|⟨C,q,r⟩<;>(rw[q];simp)
theorem aH.at(S:aH K H ι M)(h:M[n]?=Ya m):∃a,ι[n]?=Ya a/\ni K H ι m a:=by
 have hn:n<ι.length:=by rw[S.len];exact(Ye.mp h).1
 exact⟨ι[n],by simp[hn],S.obj n m _ h (by simp[hn])⟩
theorem aH.there(S:aH K H ι M){a:Y4}(h:ι[n]?=Ya a):∃m,M[n]?=Ya m/\ni K H ι m a:=by
 have hn:n<M.length:=by rw[←S.len];exact(Ye.mp h).1
 exact⟨M[n],by simp[hn],S.obj n _ _ (by simp[hn]) h⟩
theorem aH.fresh(S:aH K H ι M)(hp:H p=Ym):p∉ι:=λh=>by obtain⟨n,hn⟩:=Jp h;obtain⟨m,_,q⟩:=S.there hn;exact q.ne hp
theorem aH.other(S:aH K H ι M)(l:Loose H p)(hp:p∉ι):aH K (upd H p o) ι M:=⟨S.len,S.nd,λn m a h1 h2=>(S.obj n m a h1 h2).mono l.ext (by rw[gB];rintro rfl;exact hp (xT h2))⟩
theorem aH.new(S:aH K H ι M)(hp:H p=Ym)(h:ni K (upd H p o) (ι++[p]) m p):aH K (upd H p o) (ι++[p]) (M++[m]):=by
 have hf:=S.fresh hp;refine⟨by simp[S.len],?_,λn m' a h1 h2=>?_⟩
 .exact Ag.mpr ⟨S.nd,by simp,λx hx y hy=>by
   have e:y=p:=by simpa using hy
   subst e;rintro rfl;exact hf hx⟩
 .by_cases hn:n<ι.length
  .rw[Yj hn]at h2;rw[Yj (by rw[←S.len];exact hn)]at h1;refine(S.obj n m' a h1 h2).mono (Loose.I_ (.inl hp)) ?_;rw[gB];rintro rfl;exact hf (xT h2)
  .rw[xQ (j8 hn)]at h2;rw[xQ (by rw[←S.len];exact j8 hn)]at h1;have hlt:n-ι.length<1:=by
    have:=(Ye.mp h2).1;simpa using this
   have e0:n-ι.length=0:=Y1 (lA 1 234922001 T1 hlt) (fC _);rw[e0]at h2;rw[←S.len,e0]at h1;simp at h1 h2;subst h1 h2;exact h
theorem aH.put(S:aH K H ι M)(l0:Loose H p)(hn:ι[n]?=Ya p)(h:ni K (upd H p o) ι m p):aH K (upd H p o) ι (M.set n m):=by
 obtain⟨m0,hm0,q0⟩:=S.there hn;refine⟨by simp[S.len],S.nd,λk m' a h1 h2=>?_⟩;by_cases hk:k=n
 .subst hk;rw[hn]at h2;cases h2;have hlt:k<M.length:=(Ye.mp hm0).1;rw[Yw hlt]at h1;cases h1;exact h
 .rw[Yp (dw hk)]at h1;refine(S.obj k m' a h1 h2).mono (Loose.ext l0) ?_;rw[gB];rintro rfl;have hlt1:=(Ye.mp h2);have hlt2:=(Ye.mp hn);exact hk ((Yli S.nd).mp (hlt1.2.trans hlt2.2.symm))
theorem aH.lst(S:aH K H ι M)(hp:H p=Ym){xs:List D}{vs:List V}(r:au K H ι xs vs):Ext K H ι (upd H p (.lst vs)) (ι++[p])/\aH K (upd H p (.lst vs)) (ι++[p]) (M++[.lst xs])/\Rep K (upd H p (.lst vs)) (ι++[p]) (.ref M.length) (.ref p):=by have e:Ext K H ι (upd H p (.lst vs)) (ι++[p]):=Loose.I_ (.inl hp);refine⟨e,S.new hp ⟨vs,qN,r.mono e⟩,Rep.ref ?_⟩;rw[←S.len];simp
theorem aH.vC(S:aH K H ι M)(hp:H p=Ym)(r:au K H ι xs vs):Ext K H ι (upd H p (.tup vs)) ι/\aH K (upd H p (.tup vs)) ι M/\Rep K (upd H p (.tup vs)) ι (.tup xs) (.ref p):=by have e:Ext K H ι (upd H p (.tup vs)) ι:=Loose.ext (.inl hp);exact⟨e,S.other (.inl hp) (S.fresh hp),Rep.tup (cW.of qN) (r.mono e)⟩
theorem aH.vD(S:aH K H ι M)(l0:Loose H p)(hn:ι[n]?=Ya p)(r:au K H ι xs vs):Ext K H ι (upd H p (.lst vs)) ι/\aH K (upd H p (.lst vs)) ι (M.set n (.lst xs)):=by have e:Ext K H ι (upd H p (.lst vs)) ι:=Loose.ext l0;exact⟨e,S.put l0 hn ⟨vs,qN,r.mono e⟩⟩
end
def cO(K:Yb)(H:Hp)(ι:List Y4)(env:bK)(σ:St):Prop:=env.length=σ.length/\∀(i:Nat) d,env[i]?=Ya (Ya d)->∃v,σ[i]?=Ya (Ya v)/\Rep K H ι d v
variable{σ:St}{ι:List Y4}
theorem cO.mono{H':Hp}{ι':List Y4}(r:cO K H ι env σ)(e:Ext K H ι H' ι'):cO K H' ι' env σ:=⟨r.1,λi d h=>let⟨v,q,z⟩:=r.2 i d h;⟨v,q,z.mono e⟩⟩
theorem cO.set(r:cO K H ι env σ)(i:Nat)(h:Rep K H ι d v):cO K H ι (env.set i (Ya d)) (σ.set i (Ya v)):=by
 refine⟨by simp[r.1],λj e hj=>?_⟩;by_cases hij:j=i
 .subst hij;have hlt:j<env.length:=by
   have:=(Ye.mp hj).1;simpa using this
  rw[Yw hlt]at hj;cases hj;exact⟨v,by rw[Yw (by rw[←r.1];exact hlt)],h⟩
 .rw[Yp (dw hij)]at hj;obtain⟨w,q,z⟩:=r.2 j e hj;exact⟨w,by rw[Yp (dw hij)];exact q,z⟩
def Zv(K:Yb)(H:Hp)(ι:List Y4)(Q:VK)(r:R3 D):Prop:=match r with
 | .ok d M'=>∀v H' ι',Ext K H ι H' ι'->aH K H' ι' M'->Rep K H' ι' d v->Q v H'|_=>False
inductive TOf(K:Yb)(f:E3)(σ:St)(H:Hp)(Q:VK):Prop where
 |mk (ι:List Y4) (M:Store) (env:bK) (S:aH K H ι M) (E:cO K H ι env σ) (h:Zv K H ι Q (f env M)):TOf K f σ H Q
def nj(K:Yb)(f:E3):TE:=λσ H Q=>TOf K f σ H Q
def nq(K:Yb)(H:Hp)(ι:List Y4)(Q:Bool->Hp->Prop)(r:R3 D):Prop:=match r with
 | .ok (.bl b) M'=>∀H' ι',Ext K H ι H' ι'->aH K H' ι' M'->Q b H'|_=>False
inductive TTf(K:Yb)(f:E3)(σ:St)(H:Hp)(Q:Bool->Hp->Prop):Prop where
 |mk (ι:List Y4) (M:Store) (env:bK) (S:aH K H ι M) (E:cO K H ι env σ) (h:nq K H ι Q (f env M)):TTf K f σ H Q
def tTf(K:Yb)(f:E3):TT:=λσ H Q=>TTf K f σ H Q
def Ce(K:Yb)(H:Hp)(ι:List Y4)(Q:List V->Hp->Prop)(r:R3 (List D)):Prop:=match r with
 | .ok ds M'=>∀vs H' ι',Ext K H ι H' ι'->aH K H' ι' M'->au K H' ι' ds vs->Q vs H'|_=>False
inductive TAf(K:Yb)(f:eQ)(σ:St)(H:Hp)(Q:List V->Hp->Prop):Prop where
 |mk (ι:List Y4) (M:Store) (env:bK) (S:aH K H ι M) (E:cO K H ι env σ) (h:Ce K H ι Q (f env M)):TAf K f σ H Q
def T4(K:Yb)(f:eQ):TA:=λσ H Q=>TAf K f σ H Q
def G6(K:Yb)(H:Hp)(ι:List Y4)(Q:Option Int->Hp->Prop)(r:R3 (Option Int)):Prop:=match r with
 | .ok o M'=>∀H' ι',Ext K H ι H' ι'->aH K H' ι' M'->Q o H'|_=>False
def tOo(K:Yb)(f:yH):TO:=λσ H Q=>∃ι M env,aH K H ι M/\cO K H ι env σ/\G6 K H ι Q (f env M)
def p_(K:Yb)(H:Hp)(ι:List Y4)(E:Ends)(r:O3):Prop:=match r with
 | .nx env' M'=>∀σ' H' ι',Ext K H ι H' ι'->aH K H' ι' M'->cO K H' ι' env' σ'->E.nx σ' H'|.bk env' M'=>∀σ' H' ι',Ext K H ι H' ι'->aH K H' ι' M'->cO K H' ι' env' σ'->E.bk σ' H'|.ct env' M'=>∀σ' H' ι',Ext K H ι H' ι'->aH K H' ι' M'->cO K H' ι' env' σ'->E.ct σ' H'|.rt d M'=>∀v H' ι',Ext K H ι H' ι'->aH K H' ι' M'->Rep K H' ι' d v->E.rt v H'
 |_=>False
inductive TSf(K:Yb)(f:S3)(D:Ends)(σ:St)(H:Hp):Prop where
 |mk (ι:List Y4) (M:Store) (env:bK) (S:aH K H ι M) (E:cO K H ι env σ) (h:p_ K H ι D (f env M)):TSf K f D σ H
def tSf(K:Yb)(f:S3):TS:=λE σ H=>TSf K f E σ H
def C3(X:Cx)(e:Expr)(f:E3):Prop:=PE X e (nj X.K f)
def CT(X:Cx)(e:Expr)(f:E3):Prop:=PT X e (tTf X.K f)
def CA(X:Cx)(es:List Expr)(f:eQ):Prop:=PA X es (T4 X.K f)
def CO(X:Cx)(e:Option Expr)(f:yH):Prop:=PO X e (tOo X.K f)
def CS(X:Cx)(st:Yep)(f:S3):Prop:=PS X st (tSf X.K f)
def qd(X:Cx)(st:List Yep)(f:S3):Prop:=kZ X st (tSf X.K f)
variable{X:Cx}{e:Expr}
theorem _root_._L2.PE.imp{t t':TE}(h:PE X e t)(i:∀σ H Q,t' σ H Q->t σ H Q):PE X e t':=λpins s σ H Q I q=>h pins s σ H Q I (i σ H Q q)
theorem _root_._L2.PT.imp{t t':TT}(h:PT X e t)(i:∀σ H Q,t' σ H Q->t σ H Q):PT X e t':=λpins s σ H Q I q=>h pins s σ H Q I (i σ H Q q)
theorem _root_._L2.PA.imp{e:List Expr}{t t':TA}(h:PA X e t)(i:∀σ H Q,t' σ H Q->t σ H Q):PA X e t':=λpos pins s σ H Q I q=>h pos pins s σ H Q I (i σ H Q q)
theorem _root_._L2.PO.imp{e:Option Expr}{t t':TO}(h:PO X e t)(i:∀σ H Q,t' σ H Q->t σ H Q):PO X e t':=λpins s σ H Q I q=>h pins s σ H Q I (i σ H Q q)
theorem _root_._L2.PS.imp{e:Yep}{t t':TS}(h:PS X e t)(i:∀D σ H,t' D σ H->t D σ H):PS X e t':=λpins s σ H D I q=>h pins s σ H D I (i D σ H q)
theorem _root_._L2.kZ.imp{e:List Yep}{t t':TS}(h:kZ X e t)(i:∀D σ H,t' D σ H->t D σ H):kZ X e t':=λpins s σ H D I q=>h pins s σ H D I (i D σ H q)
theorem _root_._L2.aO.imp{f:Yh->Yh->pN Yh}{r r':R2}(h:aO X f r)(i:∀x y H Q,r' x y H Q->r x y H Q):aO X f r':=λpins s σ H x y v u Q I rx ry q=>h pins s σ H x y v u Q I rx ry (i x y H Q q)
theorem _root_._L2.uD.imp{f:Yh->pN Yh}{r r':V->Hp->VK->Prop}(h:uD X f r)(i:∀x H Q,r' x H Q->r x H Q):uD X f r':=λpins s σ H x v Q I rx q=>h pins s σ H x v Q I rx (i x H Q q)
theorem _root_._L2.dB.imp{f:Yh}{r r':List V->Hp->VK->Prop}(h:dB X f r)(i:∀x H Q,r' x H Q->r x H Q):dB X f r':=λpins s σ H xs us Q I rx q=>h pins s σ H xs us Q I rx (i xs H Q q)
theorem _root_._L2.mQ.imp{r r':R2}(h:mQ X r)(i:∀x y H Q,r' x y H Q->r x y H Q):mQ X r':=λvalue slice pins s σ H x y v u Q I rx ry q hs=>h value slice pins s σ H x y v u Q I rx ry (i x y H Q q) hs
theorem _root_._L2.j_.imp{r r':V->Option Int->Option Int->Hp->VK->Prop}(h:j_ X r)(i:∀x lo hi H Q,r' x lo hi H Q->r x lo hi H Q):j_ X r':=λpins s σ H x v vl vu lo hi sl Q I rx hs pl pu q=>h pins s σ H x v vl vu lo hi sl Q I rx hs pl pu (i x lo hi H Q q)
variable{r:R3 D}
section
variable {K:Yb} {H H1:Hp} {ι ι1:List Y4}
theorem Zv.up{Q:VK}(e:Ext K H ι H1 ι1)(h:Zv K H ι Q r):Zv K H1 ι1 Q r:=by
 cases r with
 |ok d M=>exactλv H' ι' e' S r=>h v H' ι' (e.trans e') S r|exc x M=>exact h|bad=>exact h
theorem nq.up{Q:Bool->Hp->Prop}(e:Ext K H ι H1 ι1)(h:nq K H ι Q r):nq K H1 ι1 Q r:=by
 cases r with
 |ok d M=>cases d<;>first|exact h|exactλH' ι' e' S=>h H' ι' (e.trans e') S
 |exc x M=>exact h|bad=>exact h
theorem p_.up{Q:Ends}{r:O3}(e:Ext K H ι H1 ι1)(h:p_ K H ι Q r):p_ K H1 ι1 Q r:=by
 cases r with
 |nx d M=>exactλv H' ι' e' S r=>h v H' ι' (e.trans e') S r|bk d M=>exactλv H' ι' e' S r=>h v H' ι' (e.trans e') S r|ct d M=>exactλv H' ι' e' S r=>h v H' ι' (e.trans e') S r|rt d M=>exactλv H' ι' e' S r=>h v H' ι' (e.trans e') S r
 |exc x M=>exact h|bad=>exact h
theorem Zv.ok{Q:VK}(h:Zv K H ι Q (.ok d M))(S:aH K H ι M)(r:Rep K H ι d v):Q v H:=h v H ι Ext.refl S r
theorem Zv.bind{Q:VK}{r:R3 α}{k:α->Store->R3 D}(h:Zv K H ι Q (r.bind k)):∃a M,r= .ok a M/\Zv K H ι Q (k a M):=by
 cases r with
 |ok a M=>exact⟨a,M,rfl,h⟩|exc x M=>exact h.elim|bad=>exact h.elim
theorem Ce.bind{Q:List V->Hp->Prop}{r:R3 α}{k:α->Store->R3 (List D)}(h:Ce K H ι Q (r.bind k)):∃a M,r= .ok a M/\Ce K H ι Q (k a M):=by
 cases r with
 |ok a M=>exact⟨a,M,rfl,h⟩|exc x M=>exact h.elim|bad=>exact h.elim
theorem G6.bind{Q:Option Int->Hp->Prop}{r:R3 α}{k:α->Store->R3 (Option Int)}(h:G6 K H ι Q (r.bind k)):∃a M,r= .ok a M/\G6 K H ι Q (k a M):=by
 cases r with
 |ok a M=>exact⟨a,M,rfl,h⟩|exc x M=>exact h.elim|bad=>exact h.elim
theorem nq.bind{Q:Bool->Hp->Prop}{r:R3 α}{k:α->Store->R3 D}(h:nq K H ι Q (r.bind k)):∃a M,r= .ok a M/\nq K H ι Q (k a M):=by
 cases r with
 |ok a M=>exact⟨a,M,rfl,h⟩|exc x M=>exact h.elim|bad=>exact h.elim
end
inductive R2I(K:Yb)(op:D->D->Store->R3 D)(x y:V)(H:Hp)(Q:VK):Prop where
 |mk (ι:List Y4) (M:Store) (a b:D) (S:aH K H ι M) (ra:Rep K H ι a x) (rb:Rep K H ι b y) (h:Zv K H ι Q (op a b M)):R2I K op x y H Q
def r2(K:Yb)(op:D->D->Store->R3 D):R2:=λx y H Q=>R2I K op x y H Q
noncomputable def r1(K:Yb)(op:D->Store->R3 D):V->Hp->VK->Prop:=λx H Q=>∃ι M a,aH K H ι M/\Rep K H ι a x/\Zv K H ι Q (op a M)
inductive RBI(K:Yb)(b:List D->Store->R3 D)(xs:List V)(H:Hp)(Q:VK):Prop where
 |mk (ι:List Y4) (M:Store) (ds:List D) (S:aH K H ι M) (r:au K H ι ds xs) (h:Zv K H ι Q (b ds M)):RBI K b xs H Q
noncomputable def rB(K:Yb)(b:List D->Store->R3 D):List V->Hp->VK->Prop:=λxs H Q=>RBI K b xs H Q
noncomputable def rM(K:Yb)(m:D->List D->Store->R3 D):V->List V->Hp->VK->Prop:=λx xs H Q=>∃ι M a ds,aH K H ι M/\Rep K H ι a x/\au K H ι ds xs/\Zv K H ι Q (m a ds M)
noncomputable def rS(K:Yb):V->Option Int->Option Int->Hp->VK->Prop:=λx lo hi H Q=>∃ι M a,aH K H ι M/\Rep K H ι a x/\Zv K H ι Q (yI a lo hi M)
theorem Ln{op:D->D->Store->R3 D}(σ:St)(H:Hp)(Q:VK)(h:nj K (e2 op f g) σ H Q):Bq (r2 K op) (nj K f) (nj K g) σ H Q:=by obtain⟨ι,M,env,S,E,h⟩:=h;obtain⟨a,M1,e1,h⟩:=Zv.bind h;obtain⟨b,M2,e2,h⟩:=Zv.bind h;refine⟨ι,M,env,S,E,?_⟩;rw[e1];intro v H1 ι1 x1 S1 r1;refine⟨ι1,M1,env,S1,E.mono x1,?_⟩;rw[e2];intro u H2 ι2 x2 S2 r2;exact⟨ι2,M2,a,b,S2,r1.mono x2,r2,(h.up x1).up x2⟩
theorem Zwn{op:D->Store->R3 D}(σ:St)(H:Hp)(Q:VK)(h:nj K (e1 op f) σ H Q):tUn (r1 K op) (nj K f) σ H Q:=by obtain⟨ι,M,env,S,E,h⟩:=h;obtain⟨a,M1,e1,h⟩:=Zv.bind h;refine⟨ι,M,env,S,E,?_⟩;rw[e1];intro v H1 ι1 x1 S1 r1;exact⟨ι1,M1,a,S1,r1,h.up x1⟩
variable{u:Yh}{x:aj}
section
variable {X:Cx} {a b c e o:Expr} {es:List Expr} {pos p:aZ} {f g h:E3} {gl:eQ}
theorem Zd(i:Nat)(hN:autoParam (X.N[i]?=Ya x) qA)(hv:Ks X.env.scope x:=by first|exact Or.inl rfl|exact Or.inr (Or.inl rfl)|exact Or.inr (Or.inr rfl))(hd:autoParam ((x==("__debug__":aj))=false) qB)(hcd:autoParam ((x==("__classdict__":aj))=false) qB):C3 X (.Name x pos) (Za i):=(ZvH hN hv hd hcd).imp λσ H Q ak=>by
 obtain⟨ι,M,env,S,E,h⟩:=ak;unfold Za at h;cases q:env[i]? with
 |none=>rw[q]at h;exact h.elim|some od=>
  cases od with
  |none=>rw[q]at h;exact h.elim|some d=>rw[q]at h;obtain⟨v,e1,r⟩:=E.2 i d q;exact⟨v,e1,Zv.ok h S r⟩
theorem Zj{i j}:C3 X (.Constant (.int i) j pos) (eC (.int i)):=R7.imp λσ H Q ⟨ι,M,env,S,E,h⟩=>Zv.ok h S Rep.int
theorem yR{i j}:C3 X (.Constant (.bool i) j pos) (eC (.bl i)):=Zx2.imp λσ H Q ⟨ι,M,env,S,E,h⟩=>Zv.ok h S Rep.bl
theorem n8{j}:C3 X (.Constant .none j pos) (eC .non):=Zwc.imp λσ H Q ⟨ι,M,env,S,E,h⟩=>Zv.ok h S Rep.non
theorem bB{cs:List Nat}{j}(hx:x=⟨cs.toArray⟩:=by decide +kernel):C3 X (.Constant (.str x) j pos) (eC (.str cs)):=ZvV.imp λσ H Q ak=>by obtain⟨ι,M,env,S,E,h⟩:=ak;subst hx;exact Zv.ok h S Rep.str
theorem uO(hm:X.mg x=Ya u)(r:RelV v u)(hr:∀H ι,Rep X.K H ι d v)(hg:autoParam (Gl X x) qA)(hd:autoParam ((x==("__debug__":aj))=false) qB):C3 X (.Name x pos) (eC d):=(Bo hg hm r hd).imp λσ H Q ⟨ι,M,env,S,E,h⟩=>Zv.ok h S (hr H ι)
theorem Zu{op:Operator}{q:D->D->Store->R3 D}(ho:aO X (jb op) (r2 X.K q))(ha:C3 X a f)(hb:C3 X b g):C3 X (.BinOp a op b pos) (e2 q f g):=(Zxf ho ha hb).imp Ln
theorem jV{op:UnaryOp}{q:D->Store->R3 D}(ho:uD X (JM op) (r1 X.K q))(ha:C3 X a f):C3 X (.UnaryOp op a pos) (e1 q f):=(Zyf ho ha).imp Zwn
theorem q9{op:CmpOp}{q:D->D->Store->R3 D}(ho:aO X (d7 op) (r2 X.K q))(ha:C3 X a f)(hb:C3 X b g)(hm:autoParam (xZ op b=false) qA):C3 X (.Compare a [op] [b] pos) (e2 q f g):=(Zpo ho ha hb hm).imp Ln
theorem G7{Q:Bool->Hp->Prop}(h:nq K H ι Q r):Zv K H ι (λx H'=>∃k,x= .bl k/\Q k H') r:=by
 cases r with
 |ok d M=>
  cases d with
  |bl b=>exactλv H' ι' e S r=>⟨b,r.gY,h H' ι' e S⟩|_=>exact h.elim
 |exc x M=>exact h.elim|bad=>exact h.elim
theorem lZ(h:C3 X e f)(he:∀whole,isTrue e X.env whole=(do let v ←whole;Fv e.pos;vU [v] (truthy v)):=by intro _;rfl):CT X e f:=(Zwo h he).imp λσ H Q ⟨ι,M,env,S,E,h⟩=>⟨ι,M,env,S,E,G7 h⟩
theorem bw{op:CmpOp}{q:D->D->Store->R3 D}(ho:aO X (d7 op) (r2 X.K q))(ha:C3 X a f)(hb:C3 X b g)(hm:autoParam (xZ op b=false) qA):CT X (.Compare a [op] [b] pos) (e2 q f g):=(Sv ho ha hb hm).imp λσ H Q ⟨ι,M,env,S,E,h⟩=>Ln σ H _ ⟨ι,M,env,S,E,G7 h⟩
end
variable{st:Yep}{q:List D->Store->R3 D}
section
variable {X:Cx} {a b c e o:Expr} {es rest:List Expr} {pos p:aZ} {f g h:E3} {gl:eQ}
theorem yS{op}(h:C3 X a f):C3 X (.BoolOp op [a] pos) f:=ZvB h
theorem yU(ha:C3 X a f)(hb:C3 X (.BoolOp .And (b::rest) pos) g):C3 X (.BoolOp .And (a::b::rest) pos) (bN f g):=(ZuW ha hb).imp λσ H Q ak=>by
 obtain⟨ι,M,env,S,E,h⟩:=ak;obtain⟨d,M1,e1,h⟩:=Zv.bind h;refine⟨ι,M,env,S,E,?_⟩;rw[e1];intro v H1 ι1 x1 S1 r1;cases d with
 |bl k=>
  refine⟨k,r1.gY,?_⟩;cases k with
  |true=>rw[if_pos rfl];exact⟨ι1,M1,env,S1,E.mono x1,h.up x1⟩|false=>rw[if_neg (by decide)];exact Zv.ok (h.up x1) S1 Rep.bl
 |_=>exact h.elim
theorem ZxO(ha:C3 X a f)(hb:C3 X (.BoolOp .Or (b::rest) pos) g):C3 X (.BoolOp .Or (a::b::rest) pos) (fH f g):=(Zx7 ha hb).imp λσ H Q ak=>by
 obtain⟨ι,M,env,S,E,h⟩:=ak;obtain⟨d,M1,e1,h⟩:=Zv.bind h;refine⟨ι,M,env,S,E,?_⟩;rw[e1];intro v H1 ι1 x1 S1 r1;cases d with
 |bl k=>
  refine⟨k,r1.gY,?_⟩;cases k with
  |false=>rw[if_neg (by decide)];exact⟨ι1,M1,env,S1,E.mono x1,h.up x1⟩|true=>rw[if_pos rfl];exact Zv.ok (h.up x1) S1 Rep.bl
 |_=>exact h.elim
theorem ZuP(ha:C3 X a f):C3 X (.UnaryOp .Not a pos) (e1 jr f):=(Zwt ha).imp λσ H Q ak=>by
 obtain⟨ι,M,env,S,E,h⟩:=ak;obtain⟨d,M1,e1,h⟩:=Zv.bind h;refine⟨ι,M,env,S,E,?_⟩;rw[e1];intro v H1 ι1 x1 S1 r1;cases d with
 |bl k=>exact⟨k,r1.gY,Zv.ok (h.up x1) S1 Rep.bl⟩|_=>exact h.elim
def CW(X:Cx)(e:Expr)(f:E3):Prop:=PW X e (tTf X.K f)
theorem CW.ct(h:CW X e f):CT X e f:=PW.pt h
theorem PW.imp{t t':TT}(h:PW X e t)(i:∀σ H Q,t' σ H Q->t σ H Q):PW X e t':=λwh pins s σ H Q I q=>h wh pins s σ H Q I (i σ H Q q)
theorem uP(ha:CT X a f):CW X (.BoolOp .And [a] pos) f:=ZtR ha
theorem tD(ha:CT X a f):CW X (.BoolOp .Or [a] pos) f:=ZvQ ha
theorem n_(ha:CT X a f)(hb:CW X (.BoolOp .And (b::rest) pos) g):CW X (.BoolOp .And (a::b::rest) pos) (bN f g):=PW.imp (ZvP ha hb) λσ H Q ak=>by
 obtain⟨ι,M,env,S,E,h⟩:=ak;obtain⟨d,M1,e1,h⟩:=nq.bind h;refine⟨ι,M,env,S,E,?_⟩;rw[e1];cases d with
 |bl k=>
  intro H1 ι1 x1 S1;cases k with
  |true=>rw[if_pos rfl];exact⟨ι1,M1,env,S1,E.mono x1,h.up x1⟩|false=>rw[if_neg (by decide)];exact h H1 ι1 x1 S1
 |_=>exact h.elim
theorem qe(ha:CT X a f)(hb:CW X (.BoolOp .Or (b::rest) pos) g):CW X (.BoolOp .Or (a::b::rest) pos) (fH f g):=PW.imp (Zx4 ha hb) λσ H Q ak=>by
 obtain⟨ι,M,env,S,E,h⟩:=ak;obtain⟨d,M1,e1,h⟩:=nq.bind h;refine⟨ι,M,env,S,E,?_⟩;rw[e1];cases d with
 |bl k=>
  intro H1 ι1 x1 S1;cases k with
  |false=>rw[if_neg (by decide)];exact⟨ι1,M1,env,S1,E.mono x1,h.up x1⟩|true=>rw[if_pos rfl];exact h H1 ι1 x1 S1
 |_=>exact h.elim
theorem uQ(ha:CT X a f):CT X (.UnaryOp .Not a pos) (e1 jr f):=(Zvm ha).imp λσ H Q ak=>by
 obtain⟨ι,M,env,S,E,h⟩:=ak;obtain⟨d,M1,e1,h⟩:=nq.bind h;refine⟨ι,M,env,S,E,?_⟩;rw[e1];cases d with
 |bl k=>exactλH1 ι1 x1 S1=>h H1 ι1 x1 S1|_=>exact h.elim
theorem Cg(hc:CT X c f)(ha:C3 X a g)(hb:C3 X b h):C3 X (.IfExp c a b pos) (kh f g h):=(Zru hc ha hb).imp λσ H Q ak=>by
 obtain⟨ι,M,env,S,E,h⟩:=ak;obtain⟨d,M1,e1,h⟩:=Zv.bind h;refine⟨ι,M,env,S,E,?_⟩;rw[e1];cases d with
 |bl k=>
  intro H1 ι1 x1 S1;cases k with
  |true=>rw[if_pos rfl];exact⟨ι1,M1,env,S1,E.mono x1,h.up x1⟩|false=>rw[if_neg (by decide)];exact⟨ι1,M1,env,S1,E.mono x1,h.up x1⟩
 |_=>exact h.elim
theorem Ze:CA X [] Zf:=Gm.imp λσ H Q ⟨ι,M,env,S,E,h⟩=>h [] H ι Ext.refl S au.nil
theorem Zc(ha:C3 X e f)(hr:CA X es gl)(hs:autoParam (Yz (e::es) X.env=(false,aM e X.env)::Yz es X.env) qA):CA X (e::es) (Zb f gl):=(wz ha hr hs).imp λσ H Q ak=>by obtain⟨ι,M,env,S,E,h⟩:=ak;obtain⟨d,M1,e1,h⟩:=Ce.bind h;obtain⟨ds,M2,e2,h⟩:=Ce.bind h;refine⟨ι,M,env,S,E,?_⟩;rw[e1];intro v H1 ι1 x1 S1 r1;refine⟨ι1,M1,env,S1,E.mono x1,?_⟩;rw[e2];intro vs H2 ι2 x2 S2 r2;exact h (v::vs) H2 ι2 (x1.trans x2) S2 (au.cons (r1.mono x2) r2)
theorem gH{x1}(h:CA X es gl):C3 X (.Tuple es x1 pos) (bY gl):=(Zq4 h).imp λσ H Q ak=>by
 obtain⟨ι,M,env,S,E,h⟩:=ak;obtain⟨ds,M1,e1,h⟩:=Zv.bind h;refine⟨ι,M,env,S,E,?_⟩;rw[e1];intro vs H1 ι1 x1 S1 r1;by_cases hz:ds.length<=SZ
 .rw[if_pos hz]at h;refine⟨by rw[r1.length];exact Yi hz kj,λp hp=>?_⟩;obtain⟨x2,S2,r2⟩:=S1.vC hp r1;exact h _ _ _ (x1.trans x2) S2 r2
 .rw[if_neg hz]at h;exact h.elim
theorem cG(h:CA X es gl):C3 X (.List es pos) (aV gl):=(ZwC h).imp λσ H Q ak=>by
 obtain⟨ι,M,env,S,E,h⟩:=ak;obtain⟨ds,M1,e1,h⟩:=Zv.bind h;refine⟨ι,M,env,S,E,?_⟩;rw[e1];intro vs H1 ι1 x1 S1 r1;by_cases hz:ds.length<=SZ
 .rw[if_pos hz]at h;refine⟨by rw[r1.length];exact Yi hz kj,λp hp=>?_⟩;obtain⟨x2,S2,r2⟩:=S1.lst hp r1;exact h _ _ _ (x1.trans x2) S2 r2
 .rw[if_neg hz]at h;exact h.elim
theorem ZrU(σ:St)(H:Hp)(Q:VK)(h:nj K (aC q gl) σ H Q):Sy (rB K q) (T4 K gl) σ H Q:=by obtain⟨ι,M,env,S,E,h⟩:=h;obtain⟨ds,M1,e1,h⟩:=Zv.bind h;refine⟨ι,M,env,S,E,?_⟩;rw[e1];intro vs H1 ι1 x1 S1 r1;exact⟨ι1,M1,ds,S1,r1,h.up x1⟩
theorem d_{id:String}(hc:dB X (.builtin id) (rB X.K q))(hm:X.mg x=Ym)(hv:kY x=Ya (.builtin id))(ha:CA X (e::es) gl)(hg:autoParam (Gl X x) qA)(hn:autoParam (x≠ "__name__") qB)(hdb:autoParam ((x==("__debug__":aj))=false) qB)(he:autoParam (Yz (e::es) X.env=(false,aM e X.env)::Yz es X.env) qA)(hpl:autoParam ((cN pos (Yz es X.env)).any (·.1)=false) qA):C3 X (.Call (.Name x p) (e::es) [] pos) (aC q gl):=(KN hc hg hm hv ha hn hdb he hpl).imp ZrU
theorem ju{T:String}(hc:dB X (.type T) (rB X.K q))(hm:X.mg x=Ym)(hv:kY x=Ya (.type T))(ha:CA X (e::es) gl)(hg:autoParam (Gl X x) qA)(hn:autoParam (x≠ "__name__") qB)(hdb:autoParam ((x==("__debug__":aj))=false) qB)(he:autoParam (Yz (e::es) X.env=(false,aM e X.env)::Yz es X.env) qA)(hpl:autoParam ((cN pos (Yz es X.env)).any (·.1)=false) qA):C3 X (.Call (.Name x p) (e::es) [] pos) (aC q gl):=(Zk1 hc hg hm hv ha hn hdb he hpl).imp ZrU
theorem a_(hr:mQ X (r2 X.K Zn))(ha:C3 X a f)(hb:C3 X b g)(hs:Zpe b:=by exactλ_ _=>rfl):C3 X (.Subscript a b pos) (e2 Zn f g):=(ZxI hr ha hb hs).imp Ln
theorem q_:CO X Ym fV:=Ztv.imp λσ H Q ⟨ι,M,env,S,E,h⟩=>h H ι Ext.refl S
theorem ph(h:C3 X e f):CO X (Ya e) (dG f):=(ZtN h).imp λσ H Q ak=>by
 obtain⟨ι,M,env,S,E,h⟩:=ak;obtain⟨d,M1,e1,h⟩:=G6.bind h;refine⟨ι,M,env,S,E,?_⟩;rw[e1];intro v H1 ι1 x1 S1 r1;cases d with
 |int i=>exact⟨i,r1.int_inv,h H1 ι1 x1 S1⟩|_=>exact h.elim
theorem qg{lo hi:Option Expr}{ol oh:yH}{p2:aZ}(hr:j_ X (rS X.K))(he:C3 X e f)(hl:CO X lo ol)(hu:CO X hi oh):C3 X (.Subscript e (.Slice lo hi Ym p2) pos) (eU f ol oh):=(ZrD hr he hl hu).imp λσ H Q ak=>by obtain⟨ι,M,env,S,E,h⟩:=ak;obtain⟨d,M1,e1,h⟩:=Zv.bind h;obtain⟨l,M2,e2,h⟩:=Zv.bind h;obtain⟨u,M3,e3,h⟩:=Zv.bind h;refine⟨ι,M,env,S,E,?_⟩;rw[e1];intro v H1 ι1 x1 S1 r1;refine⟨ι1,M1,env,S1,E.mono x1,?_⟩;rw[e2];intro H2 ι2 x2 S2;refine⟨ι2,M2,env,S2,(E.mono x1).mono x2,?_⟩;rw[e3];intro H3 ι3 x3 S3;exact⟨ι3,M3,d,S3,(r1.mono x2).mono x3,((h.up x1).up x2).up x3⟩
theorem cM:qd X [] aW:=Zs9.imp λD σ H ⟨ι,M,env,S,E,h⟩=>h σ H ι Ext.refl S E
theorem Zm{u:S3}(h:CS X st u):qd X [st] u:=Zs8 h
theorem Zg{sts:List Yep}{u w:S3}(h1:CS X st u)(h2:qd X sts w):qd X (st::sts) (Zr u w):=(ZqG h1 h2).imp λD σ H ak=>by
 obtain⟨ι,M,env,S,E,h⟩:=ak;refine⟨ι,M,env,S,E,?_⟩;have h':p_ X.K H ι D (match u env M with| .nx env' M'=>w env' M'|o=>o):=h;cases q:u env M with
 |nx env' M'=>rw[q]at h';exactλσ' H' ι' x S' E'=>⟨ι',M',env',S',E',h'.up x⟩|_=>rw[q]at h';exact h'
theorem bT{c1:Expr}{x y:List Yep}{u w:S3}(hc:CT X c1 f)(ha:qd X x u)(hb:qd X y w):CS X (.If c1 x y pos) (aK f u w):=(Zyk hc ha hb).imp λD σ H ak=>by
 obtain⟨ι,M,env,S,E,h⟩:=ak;refine⟨ι,M,env,S,E,?_⟩;unfold aK at h;cases q:f env M with
 | ok d M1=>
  rw[q]at h;cases d with
  |bl k=>
   intro H1 ι1 x1 S1;cases k with
   |true=>rw[if_pos rfl];exact⟨ι1,M1,env,S1,E.mono x1,h.up x1⟩|false=>rw[if_neg (by decide)];exact⟨ι1,M1,env,S1,E.mono x1,h.up x1⟩
  |_=>exact h.elim
 |exc x M1=>rw[q]at h;exact h.elim|bad=>rw[q]at h;exact h.elim
theorem bH(h:C3 X e f):CS X (.Return (Ya e) pos) (aQ f):=(Zvp h).imp λD σ H ak=>by
 obtain⟨ι,M,env,S,E,h⟩:=ak;refine⟨ι,M,env,S,E,?_⟩;unfold aQ at h;cases q:f env M with
 |ok d M1=>rw[q]at h;exact h|exc x M1=>rw[q]at h;exact h.elim|bad=>rw[q]at h;exact h.elim
theorem gQ(h:C3 X e f)(hs:autoParam (vR e Ym pos.line X.env=pure false) qA):CS X (.Expr e pos) (aU f):=(ZtM h hs).imp λD σ H ak=>by
 obtain⟨ι,M,env,S,E,h⟩:=ak;refine⟨ι,M,env,S,E,?_⟩;unfold aU at h;cases q:f env M with
 |ok d M1=>rw[q]at h;exactλv H1 ι1 x1 S1 r1=>h σ H1 ι1 x1 S1 (E.mono x1)|exc x M1=>rw[q]at h;exact h.elim|bad=>rw[q]at h;exact h.elim
theorem Zw(i:Nat){pos':aZ}(hN:X.N.Nodup)(he:C3 X e f)(hi:autoParam (X.N[i]?=Ya x) qA)(hx:Loc X.env.scope x:=by first|exact Or.inl rfl|exact Or.inr rfl)(hs:autoParam (vR e (Ya (.Name x pos')) pos.line X.env=pure false) qA)(hf:X.fn x=true\/X.env.scope.names.lookup x=Ya .local:=by first|exact .inl rfl|exact .inr rfl):CS X (.Assign [.Name x pos'] e pos) (aA i f):=(ZwD hN hi hx he hs hf).imp λD σ H ak=>by
 obtain⟨ι,M,env,S,E,h⟩:=ak;refine⟨ι,M,env,S,E,?_⟩;unfold aA at h;cases q:f env M with
 |ok d M1=>rw[q]at h;exactλv H1 ι1 x1 S1 r1=>h _ H1 ι1 x1 S1 ((E.mono x1).set i r1)|exc x M1=>rw[q]at h;exact h.elim|bad=>rw[q]at h;exact h.elim
theorem Lp:CS X st qU:=λ_ _ _ _ _ _ ⟨_,_,_,_,_,h⟩=>h.elim
theorem Zrb:CS X (.Break pos) Tz:=Zrh.imp λD σ H ⟨ι,M,env,S,E,h⟩=>h σ H ι Ext.refl S E
end
noncomputable def uR(K:Yb)(n:Nat)(F:F3):Sp:=λvs H Q _=>∃ι M ds,aH K H ι M/\au K H ι ds vs/\ds.length=n/\Zv K H ι Q (F ds M)
section
variable {K:Yb} {H H':Hp} {ι ι':List Y4} {M M':Store}
mutual
theorem Rep.below:∀{d:D} {v:V},Rep K H ι d v->_L3.below ι.length d=true
 | .non,_,_=>rfl|.bl _,_,_=>rfl|.int _,_,_=>rfl|.str _,_,_=>rfl
 | .tup ds,_,h=>by obtain⟨a,vs,_,_,r⟩:=h.ji;exact au.cj (ds:=ds) r|.bD ds,_,h=>by obtain⟨a,vs,_,_,r⟩:=h.tR;exact au.cj (ds:=ds) r|.ref n,_,h=>by obtain⟨a,q,_⟩:=h.dX;exact decide_eq_true (Ye.mp q).1
theorem au.cj:∀{ds:List D} {vs:List V},au K H ι ds vs->_L3.cj ι.length ds=true
 |[],_,_=>rfl|d::ds,_,h=>by obtain⟨v,ws,_,r,q⟩:=h.cons_inv;exact v9.mpr ⟨Rep.below (d:=d) r,au.cj (ds:=ds) q⟩
end
mutual
theorem Rep.cut{n:Nat}:∀{d:D} {v:V},_L3.below n d=true->Rep K H ι d v->Rep K H (ι.take n) d v
 | .non,_,_,h=>h|.bl _,_,_,h=>h|.int _,_,_,h=>h|.str _,_,_,h=>h
 | .tup ds,_,hb,h=>by obtain⟨a,vs,rfl,s,r⟩:=h.ji;exact Rep.tup s (au.cut (ds:=ds) hb r)|.bD ds,_,hb,h=>by obtain⟨a,vs,rfl,s,r⟩:=h.tR;exact⟨a,vs,rfl,s,au.cut (ds:=ds) hb r⟩|.ref k,_,hb,h=>by obtain⟨a,q,rfl⟩:=h.dX;refine Rep.ref ?_;rw[xR (of_decide_eq_true hb)];exact q
theorem au.cut{n:Nat}:∀{ds:List D} {vs:List V},_L3.cj n ds=true->au K H ι ds vs->au K H (ι.take n) ds vs
 |[],_,_,h=>h|d::ds,_,hb,h=>by obtain⟨v,ws,rfl,r,q⟩:=h.cons_inv;exact have w:=v9.mp (hb:(_L3.below n d&&_L3.cj n ds)=true);au.cons (Rep.cut (d:=d) w.1 r) (au.cut (ds:=ds) w.2 q)
end
theorem ni.below{a:Y4}(h:ni K H ι m a):wD ι.length m=true:=by
 cases m with
 |lst xs=>obtain⟨vs,_,r⟩:=h;exact r.cj|dct kvs=>obtain⟨ws,_,_,r⟩:=h;exact r.cj|cV kvs=>obtain⟨ws,_,_,r⟩:=h;exact r.cj|ins c fs=>
  rcases h with⟨_,_,gs,_,_,_,r⟩|⟨_,_,_,_,rfl⟩
  .exact r.cj
  .rfl
theorem ni.cut{a:Y4}(hb:wD n m=true)(h:ni K H ι m a):ni K H (ι.take n) m a:=by
 cases m with
 |lst xs=>obtain⟨vs,q,r⟩:=h;exact⟨vs,q,r.cut hb⟩|dct kvs=>obtain⟨ws,q,r1,r2⟩:=h;exact⟨ws,q,r1,r2.cut hb⟩|cV kvs=>obtain⟨ws,q,r1,r2⟩:=h;exact⟨ws,q,r1,r2.cut hb⟩|ins c fs=>
  rcases h with⟨C,dx,gs,q,c,r1,r2⟩|h
  .exact .inl ⟨C,dx,gs,q,c,r1,r2.cut hb⟩
  .exact .inr h
theorem aH.cut(S:aH K H ι M)(h:(M.take n).all (wD n)=true):aH K H (ι.take n) (M.take n):=by
 refine⟨by simp[S.len],S.nd.sublist (Yks _ _),λk m a h1 h2=>?_⟩;have hk:k<n:=by have:=(Ye.mp h1).1;rw[Ah]at this;exact Y8 this (Q3 _ _)
 have hb:wD n m=true:=iw.mp h m (xT h1);rw[xR hk]at h1 h2;exact(S.obj k m a h1 h2).cut hb
theorem Zpv{Q:VK}(S:aH K H ι M)(x:Ext K H ι H' ι')(S':aH K H' ι' M')(r:Rep K H' ι' d v)(h:Zv K H ι Q (eV M d M')):Q v H':=by
 unfold eV at h;split at h
 .rename_i c;simp only[Y6,yh,decide_eq_true_eq]at c;have hall:(M'.take M.length).all (wD M.length)=true:=by
   rcases c.2 with e|e
   .rw[e,iw];intro m hm;obtain⟨n,hn⟩:=Jp hm;obtain⟨a,q,w⟩:=S.at hn;rw[←S.len];exact w.below
   .exact e
  refine h v H' (ι'.take M.length) ⟨x.tup,x.bD,λn a q=>?_,x.gA⟩ (S'.cut hall) (r.cut c.1);rw[xR (by rw[←S.len];exact(Ye.mp q).1)];exact x.pre n a q
 .exact h v H' ι' x S' r
end
theorem cO.start(r:au K H ι ds vs)(n:Nat):cO K H ι (ds.map Ya++Yr n Ym) (vs.map Ya++Yr n Ym):=by
 refine⟨by simp[r.length],λi d h=>?_⟩;by_cases hi:i<ds.length
 .rw[Yj (by simpa using hi),lO]at h;cases q:ds[i]? with
  |none=>rw[q]at h;simp at h|some d'=>rw[q]at h;simp at h;subst h;obtain⟨v,e,z⟩:=r.get q;refine⟨v,?_,z⟩;rw[Yj (by simpa[r.length]using hi),lO,e];rfl
 .rw[xQ (by simpa using hi),Jk]at h;split at h<;>simp at h
variable{ps:List aj}
section
variable {P:bR} {w:bJ} {K:Yb} {mg:aj->Option Yh} {base:aR}
theorem T5{qual:aj}{f:Y4}{fd:lU}{N:List aj}{k:Nat}(F:uG K x qual st f fd)(S:dg N ps (Zk st))(hb:∀(cdv:Yh) (A:bW) (outer:List gj) (s:Yl) (H:Hp) (E:XK),d9 k (A.deeper (pP qual (Zk st) s.heap.objs.size f cdv))->qd (uE mU P w K mg base N qual (Zk st) f cdv A outer s H E).yx (cH st) body):
  jO P w K mg base mU (k+1) f fd ps (uR K ps.length (bF ps.length N.length body)):=by
 refine F.ok S (λvs H Q E ⟨ι,M,ds,_,r,l,_⟩=>by rw[r.length,l]) λcdv A outer s H vs Q E hr ak=>?_;obtain⟨ι,M,ds,SR,r,l,h⟩:=ak;refine⟨_,hb cdv A outer s H E hr,ι,M,ds.map Ya++Yr (N.length-ps.length) Ym,SR,?_,?_⟩
 .have e:_L2.start N vs=vs.map Ya++Yr (N.length-ps.length) Ym:=by unfold _L2.start;rw[r.length,l]
  rw[e];exact cO.start r _
 .unfold bF at h;rw[if_pos l]at h;cases q:body (ds.map Ya++Yr (N.length-ps.length) Ym) M with
  |nx env' M'=>rw[q]at h;exactλσ' H' ι' x S' E'=>Zpv SR x S' Rep.non h|rt d M'=>rw[q]at h;exactλv H' ι' x S' r'=>Zpv SR x S' r' h|bk _ _=>rw[q]at h;exact h.elim|ct _ _=>rw[q]at h;exact h.elim
  |exc _ _=>rw[q]at h;exact h.elim|bad=>rw[q]at h;exact h.elim
def aD(P:bR)(w:bJ)(K:Yb)(mg:aj->Option Yh)(base:aR)(k:Nat)(x:aj)(ps:List aj)(F:F3):Prop:=(∀ds M,ds.length≠ps.length->F ds M= .bad)/\∃f fd,mg x=Ya (.ref f)/\tY K (.ref f)=true/\Binds K fd ps []/\jO P w K mg base mU k f fd ps (uR K ps.length F)
def bC(K:Yb)(mg:aj->Option Yh)(x:aj)(st:Yep)(ps:List aj):Prop:=∃f fd,uG K x x st f fd/\mg x=Ya (.ref f)/\Binds K fd ps []
theorem aD.mono{j k:Nat}(h:aD P w K mg base j x ps F)(l:j<=k):aD P w K mg base k x ps F:=let⟨n,f,fd,a,b,c,d⟩:=h;⟨n,f,fd,a,b,c,d.mono l⟩
theorem aD.of{N:List aj}{k:Nat}(d:bC K mg x st ps)(S:dg N ps (Zk st))(hb:∀(f:Y4) (cdv:Yh) (A:bW) (outer:List gj) (s:Yl) (H:Hp) (E:XK),d9 k (A.deeper (pP x (Zk st) s.heap.objs.size f cdv))->qd (uE mU P w K mg base N x (Zk st) f cdv A outer s H E).yx (cH st) body):
  aD P w K mg base (k+1) x ps (bF ps.length N.length body):=by
 obtain⟨f,fd,F,m,bi⟩:=d;exact⟨λds M h=>if_neg h,f,fd,m,F.kp,bi,T5 F S (hb f)⟩
end
section
variable {X:Cx} {e:Expr} {es:List Expr} {pos p:aZ} {gl:eQ} {x:aj} {k:Nat} {ps:List aj} {F:F3}
theorem bO(G:aD X.prog X.w X.K X.mg X.base k x ps F)(hr:d9 k X.A)(ha:CA X (e::es) gl)(hg:autoParam (Gl X x) qA)(hdb:autoParam ((x==("__debug__":aj))=false) qB)(he:autoParam (Yz (e::es) X.env=(false,aM e X.env)::Yz es X.env) qA)(hpl:autoParam ((cN pos (Yz es X.env)).any (·.1)=false) qA):C3 X (.Call (.Name x p) (e::es) [] pos) (Zz F gl):=by
 obtain⟨hn,f,fd,m,kp,bi,ok⟩:=G;refine(Ztl ok hr hg m kp bi .nil ZuF ha hdb he hpl).imp λσ H Q ak=>?_;obtain⟨ι,M,env,S,E,h⟩:=ak;obtain⟨ds,M1,e1,h⟩:=Zv.bind h;refine⟨ι,M,env,S,E,?_⟩;rw[e1];intro vs H1 ι1 x1 S1 r1;have hl:ds.length=ps.length:=by refine Ygx λq=>?_;rw[hn ds M1 q]at h;exact h.elim
 exact⟨ι1,M1,ds,S1,by rw[kO];exact r1,hl,h.up x1⟩
end
def tGf(K:Yb)(g:G3):TG:=λv σ H Q=>∃ι M env d env',aH K H ι M/\cO K H ι env σ/\Rep K H ι d v/\g d env=Ya env'/\∀σ',cO K H ι env' σ'->Q σ' H
def tGs(K:Yb)(is:List Nat):qP:=λvs σ H Q=>∃ι M env ds env',aH K H ι M/\cO K H ι env σ/\au K H ι ds vs/\bindAll is ds env=Ya env'/\∀σ',cO K H ι env' σ'->Q σ' H
def CG(X:Cx)(tg:Expr)(g:G3):Prop:=PG X tg (tGf X.K g)
def G8(X:Cx)(tg:List Expr)(is:List Nat):Prop:=qQ X tg (tGs X.K is)
theorem PG.imp{t t':TG}(h:PG X e t)(i:∀v σ H Q,t' v σ H Q->t v σ H Q):PG X e t':=λpins s σ H v u Q I r q=>h pins s σ H v u Q I r (i v σ H Q q)
theorem qQ.imp{e:List Expr}{t t':qP}(h:qQ X e t)(i:∀v σ H Q,t' v σ H Q->t v σ H Q):qQ X e t':=λpins s σ H v u Q I r q=>h pins s σ H v u Q I r (i v σ H Q q)
section
variable {X:Cx} {e:Expr} {es:List Expr} {pos:aZ}
theorem iJ(i:Nat)(hN:X.N.Nodup)(hi:autoParam (X.N[i]?=Ya x) qA)(hx:Loc X.env.scope x:=by first|exact Or.inl rfl|exact Or.inr rfl)(hf:X.fn x=true\/X.env.scope.names.lookup x=Ya .local:=by first|exact .inl rfl|exact .inr rfl):CG X (.Name x pos) (bA i):=PG.imp (ZpJ hN hi hx hf) λv σ H Q ak=>by obtain⟨ι,M,env,d,env',S,E,r,q,h⟩:=ak;cases q;exact h _ (E.set i r)
theorem yV:G8 X [] []:=qQ.imp ZtX λv σ H Q ak=>by
 obtain⟨ι,M,env,ds,env',S,E,r,q,h⟩:=ak;cases ds with
 |nil=>cases q;exact⟨r.nil_inv,h σ E⟩|cons d ds=>cases q
theorem l_(i:Nat){is:List Nat}(hN:X.N.Nodup)(ht:G8 X es is)(hi:autoParam (X.N[i]?=Ya x) qA)(hx:Loc X.env.scope x:=by first|exact Or.inl rfl|exact Or.inr rfl)(hf:X.fn x=true\/X.env.scope.names.lookup x=Ya .local:=by first|exact .inl rfl|exact .inr rfl)(hs:autoParam ((jJ (.Name x pos::es) X.env).map (·.2)=jK (.Name x pos) X.env::(jJ es X.env).map (·.2)) qA):
  G8 X (.Name x pos::es) (i::is):=qQ.imp (ZsJ (ZpJ hN hi hx hf) ht hs) λv σ H Q ak=>by
 obtain⟨ι,M,env,ds,env',S,E,r,q,h⟩:=ak;cases ds with
 |nil=>cases q|cons d ds=>obtain⟨v,ws,rfl,r1,r2⟩:=r.cons_inv;exact⟨v,ws,rfl,ι,M,env.set i (Ya d),ds,env',S,E.set i r1,r2,q,h⟩
theorem Lq{is:List Nat}{k:Nat}(hc:X.calm=true)(h:G8 X es is)(hl:autoParam (es.length=is.length) qA)(hn:autoParam ((jJ es X.env).length=is.length) qA)(hst:autoParam ((jJ es X.env).findIdx? (·.1)=Ym) qA):CG X (.Tuple es k pos) (o7 is):=
 PG.imp (Zwm (n:=is.length) hc h hn hst) λv σ H Q ak=>by
  obtain⟨ι,M,env,d,env',S,E,r,q,h⟩:=ak;cases d with
  | tup ds=>
   obtain⟨a,vs,rfl,s,r⟩:=r.ji;have hlen:∀(is:List Nat) (ds:List D) (env env':bK),bindAll is ds env=Ya env'->ds.length=is.length:=by
    intro is
    induction is with
    |nil=>intro ds env env' h;cases ds with|nil=>rfl|cons d ds=>cases h
    |cons i is ih=>intro ds env env' h;cases ds with|nil=>cases h|cons d ds=>simp[ih ds _ _ h]
   exact⟨a,vs,rfl,s,by rw[r.length];exact hlen _ _ _ _ q,ι,M,env,ds,env',S,E,r,q,h⟩
  |_=>cases q
end
def rm(K:Yb)(H:Hp)(ι:List Y4)(it:gm)(J:It):Prop:=∀(i:Nat) H2 ι2 M2,Ext K H ι H2 ι2->aH K H2 ι2 M2->locked it M2=true ->
 (∀d,it.items[i]?=Ya d->J.go i H2/\∀x H3,J.Ky i H2 x H3->H3=H2/\Rep K H2 ι2 d x)/\(i=it.items.length->J.stop i H2)
def Ci(K:Yb)(H:Hp)(ι:List Y4)(R:It->Hp->Prop)(r:R3 gm):Prop:=match r with
 | .ok it M'=>∀J H' ι',Ext K H ι H' ι'->aH K H' ι' M'->rm K H' ι' it J->R J H'|_=>False
def R_(K:Yb)(g:I3):TI:=λσ H R=>∃ι M env,aH K H ι M/\cO K H ι env σ/\Ci K H ι R (g env M)
def CI(X:Cx)(tg e:Expr)(g:I3):Prop:=PI X tg e (R_ X.K g)
theorem PI.imp{tg:Expr}{t t':TI}(h:PI X tg e t)(i:∀σ H Q,t' σ H Q->t σ H Q):PI X tg e t':=λpins s σ H Q I q=>h pins s σ H Q I (i σ H Q q)
theorem PI.or{tg:Expr}{t t':TI}(h:PI X tg e t)(h':PI X tg e t'):PI X tg e (λσ H R=>t σ H R\/t' σ H R):=λpins s σ H Q I q=>q.elim (h pins s σ H Q I) (h' pins s σ H Q I)
theorem Ci.bind{Q:It->Hp->Prop}{r:R3 α}{k:α->Store->R3 gm}(h:Ci K H ι Q (r.bind k)):∃a M,r= .ok a M/\Ci K H ι Q (k a M):=by
 cases r with
 |ok a M=>exact⟨a,M,rfl,h⟩|exc x M=>exact h.elim|bad=>exact h.elim
section
variable {X:Cx} {tg e a b:Expr} {pos p:aZ} {f g:E3}
theorem ZwB(h:C3 X e f)(hs:PI X tg e (λσ H R=>nj X.K f σ H λx H1=>∃z:aj,x= .str z/\z.length<=SZ/\∀J,(∀ι,rm X.K H1 ι ⟨z.cps.toList.map λc=>.str [c],Ym⟩ J)->R J H1)):CI X tg e (bZ f):=
 PI.imp (PI.or (ZvG h) (PI.or (ZtH h) hs)) λσ H R ak=>by
  obtain⟨ι,M,env,S,E,h⟩:=ak;obtain⟨d,M1,e1,h⟩:=Ci.bind h;cases d with
  |tup ds=>refine .inl ⟨ι,M,env,S,E,?_⟩;rw[e1];intro v H1 ι1 x1 S1 r1;obtain⟨a,vs,rfl,s,r⟩:=r1.ji;refine⟨a,rfl,⟨vs,s⟩,h _ H1 ι1 x1 S1 ?_⟩;intro i H2 ι2 M2 x S2 _;refine⟨λd hd=>?_,λhl=>⟨vs,x.tup _ _ s,by rw[r.length,hl];exact Yt _⟩⟩;obtain⟨v,hv,rv⟩:=r.get hd;refine⟨⟨vs,v,x.tup _ _ s,hv⟩,λy H3 hy=>⟨hy.1,?_⟩⟩;have e:=hy.2 vs (x.tup _ _ s);rw[hv]at e;cases e;exact rv.mono x|bD ds=>refine .inr (.inl ⟨ι,M,env,S,E,?_⟩);rw[e1];intro v H1 ι1 x1 S1 r1;obtain⟨a,vs,rfl,s,r⟩:=r1.tR;refine⟨a,rfl,⟨vs,s.sq⟩,h _ H1 ι1 x1 S1 ?_⟩;intro i H2 ι2 M2 x S2 _;refine⟨λd hd=>?_,λhl=>⟨vs,(x.bD _ _ s).sq,by rw[r.length,hl];exact Yt _⟩⟩;obtain⟨v,hv,rv⟩:=r.get hd;refine⟨⟨vs,v,(x.bD _ _ s).sq,hv⟩,λy H3 hy=>⟨hy.1,?_⟩⟩;have e:=hy.2 vs (x.bD _ _ s).sq;rw[hv]at e;cases e;exact rv.mono x|ref n=>
   refine .inr (.inl ⟨ι,M,env,S,E,?_⟩);rw[e1];intro v H1 ι1 x1 S1 r1;cases hm:M1[n]? with
   |none=>simp only[hm]at h;exact h.elim|some o=>
    cases o with
    |dct kvs=>simp only[hm]at h;exact h.elim|cV kvs=>simp only[hm]at h;exact h.elim|ins _ _=>simp only[hm]at h;exact h.elim|lst ds=>simp only[hm]at h;obtain⟨a,ha,rfl⟩:=r1.dX;obtain⟨vs,q,r⟩:=S1.obj n _ a hm ha;refine⟨a,rfl,⟨vs,bM.of q⟩,h _ H1 ι1 x1 S1 ?_⟩;intro i H2 ι2 M2 x S2 lk;have G9:M2[n]?=Ya (.lst ds):=of_decide_eq_true lk;obtain⟨vs2,q2,r2⟩:=S2.obj n _ a G9 (x.pre _ _ ha);refine⟨λd hd=>?_,λhl=>⟨vs2,bM.of q2,by rw[r2.length,hl];exact Yt _⟩⟩;obtain⟨v,hv,rv⟩:=r2.get hd;refine⟨⟨vs2,v,bM.of q2,hv⟩,λy H3 hy=>⟨hy.1,?_⟩⟩;have e:=hy.2 vs2 (bM.of q2);rw[hv]at e;cases e;exact rv
  | str z=>
   refine .inr (.inr ⟨ι,M,env,S,E,?_⟩);rw[e1];intro v H1 ι1 x1 S1 r1;have hv:=r1.str_inv;subst hv;by_cases hz:z.length<=SZ
   .simp only[if_pos hz]at h;refine⟨_,rfl,by simpa[mK]using hz,λJ hJ=>h J H1 ι1 x1 S1 ?_⟩;simpa using hJ ι1
   .simp only[if_neg hz]at h;exact h.elim
  |non=>exact h.elim|bl b=>exact h.elim|int i=>exact h.elim
theorem ZrX(lo:Int)(n:Nat):rm K H ι ⟨mZ lo n,Ym⟩ (KC lo n):=by
 intro i H2 ι2 M2 x S _;refine⟨λd hd=>?_,λhl=>?_⟩
 .unfold mZ at hd;rw[lO]at hd;cases q:(iC n)[i]? with
  |none=>rw[q]at hd;cases hd|some k=>
   rw[q]at hd;obtain⟨hi,e⟩:=Ye.mp q;rw[List.getElem_range]at e;subst e;have hd':D.int (lo+(i:Int))=d:=by simpa using hd
   subst hd';exact⟨(by show i<n;simpa using hi),λy H3 hy=>⟨hy.1,by rw[hy.2];exact Rep.int⟩⟩
 .show n<=i;rw[hl];simp[mZ]
theorem Lr(hm:X.mg "range" =Ym)(h:C3 X a f)(hg:autoParam (Gl X "range") qA)(hs:autoParam (Yz [a] X.env=[(false,aM a X.env)]) qA)(hs':autoParam (Yz (a::[]) X.env=(false,aM a X.env)::Yz [] X.env) qA):CI X tg (.Call (.Name "range" p) [a] [] pos) (sW f):=
 PI.imp (Zqt hg hm (Zc h Ze hs') hs) λσ H R ak=>by
  obtain⟨ι,M,env,S,E,h⟩:=ak;obtain⟨d,M1,e1,h⟩:=Ci.bind h;refine⟨ι,M,env,S,E,?_⟩;have e2:Zb f Zf env M= .ok [d] M1:=by unfold Zb;rw[e1];rfl
  rw[e2];intro vs H1 ι1 x1 S1 r1;obtain⟨v,ws,rfl,r,q⟩:=r1.cons_inv;have:=q.nil_inv;subst this;cases d with
  | int j=>
   have hv:=r.int_inv;subst hv;by_cases hj:j<=1000000/\ -1000000<=j
   .simp only[if_pos hj]at h;exact⟨j,rfl,by omega,by omega,h _ H1 ι1 x1 S1 (ZrX 0 j.toNat)⟩
   .simp only[if_neg hj]at h;exact h.elim
  |_=>exact h.elim
theorem tE{iter:Expr}{body:List Yep}{i:I3}{g:G3}{u:S3}(yW:X.xe=λ_ _=>False)(hc:X.calm=true)(hi:CI X tg iter i)(hg:CG X tg g)(hb:qd X body u)(hs:∀x,Al iter X.env x=pure x:=by intro _;rfl):
  CS X (.For tg iter body [] pos) (lz i g u):=(ZvY (by rw[yW];exact Yl9) hc hi hg hb hs).imp λD σ H ak=>by
 obtain⟨ι,M,env,S,E,h⟩:=ak;unfold lz at h;cases q:i env M with
 |exc x M1=>rw[q]at h;exact h.elim|bad=>rw[q]at h;exact h.elim|ok it M1=>
  rw[q]at h;refine⟨ι,M,env,S,E,?_⟩;rw[q];intro J H1 ι1 x1 S1 ok;refine⟨λi m σ2 H2=>m=it.items.length-i/\i<=it.items.length/\∃ι2 M2 oX,Ext X.K H1 ι1 H2 ι2/\aH X.K H2 ι2 M2/\cO X.K H2 ι2 oX σ2/\p_ X.K H2 ι2 D (dH it g u (it.items.drop i) oX M2),
   ⟨_,rfl,fC _,ι1,M1,env,Ext.refl,S1,E.mono x1,p_.up x1 h⟩,?_⟩
  rintro i m σ2 H2 ⟨rfl,hi,ι2,M2,oX,x2,S2,E2,h2⟩;by_cases hlt:i<it.items.length
  .have hd:it.items[i]?=Ya it.items[i]:=by simp[hlt]
   rw[Ad hlt]at h2
   first|rw[o8]at h2|rw[pZ]at h2
   by_cases lk:locked it M2=true
   .rw[if_pos lk]at h2;obtain⟨go,yl⟩:=(ok i H2 ι2 M2 x2 S2 lk).1 _ hd;cases eg:g it.items[i] oX with
    |none=>rw[eg]at h2;exact h2.elim|some Pq=>
     rw[eg]at h2;refine .inr ⟨go,λσ' H'=>∃ι3 M3 xP,Ext X.K H2 ι2 H' ι3/\aH X.K H' ι3 M3/\cO X.K H' ι3 xP σ'/\p_ X.K H' ι3 D (dH it g u (it.items.drop (i+1)) xP M3),
      λσ' H' ⟨ι3,M3,xP,x3,S3,E3,h3⟩=>⟨it.items.length-(i+1),lD 2 0x30113c2012a1c0c21 T1 (Y9 (lB 1 6991908881 T1 hlt)) (gO _ _),rfl,hlt,ι3,M3,xP,x2.trans x3,S3,E3,h3⟩,λx H' hy=>?_⟩
     obtain⟨rfl,rx⟩:=yl x H' hy;refine⟨ι2,M2,oX,_,Pq,S2,E2,rx,eg,λσ' E'=>⟨ι2,M2,Pq,S2,E',?_⟩⟩;cases qu:u Pq M2 with
     |nx e' M'=>simp only[qu]at h2;exactλσ' H' ι' x' S' E'=>⟨ι',M',e',x',S',E',h2.up x'⟩|ct e' M'=>simp only[qu]at h2;exactλσ' H' ι' x' S' E'=>⟨ι',M',e',x',S',E',h2.up x'⟩|bk e' M'=>simp only[qu]at h2;exact h2|rt d M'=>simp only[qu]at h2;exact h2
     |exc x' M'=>simp only[qu]at h2;exact h2.elim|bad=>simp only[qu]at h2;exact h2.elim
   .rw[if_neg lk]at h2;exact h2.elim
  .have e0:i=it.items.length:=Y1 hi (j8 hlt);subst e0;rw[Qk]at h2
   first|rw[o8]at h2|rw[pZ]at h2
   by_cases lk:locked it M2=true
   .rw[if_pos lk]at h2;exact .inl ⟨(ok _ H2 ι2 M2 x2 S2 lk).2 rfl,h2 σ2 H2 ι2 Ext.refl S2 E2⟩
   .rw[if_neg lk]at h2;exact h2.elim
theorem Zm1{c1:Expr}{body:List Yep}{u:S3}(yW:X.xe=λ_ _=>False)(hc:CT X c1 f)(hb:qd X body u):CS X (.While c1 body [] pos) (TF f u):=(Zsx (by rw[yW];exact Yl9) hc hb).imp λD σ H ak=>by
 obtain⟨ι,M,env,S,E,h⟩:=ak;refine⟨λm σ2 H2=>∃ι2 M2 oX,aH X.K H2 ι2 M2/\cO X.K H2 ι2 oX σ2/\p_ X.K H2 ι2 D (sX f u m oX M2),⟨1000000,ι,M,env,S,E,h⟩,?_⟩;rintro m σ2 H2 ⟨ι2,M2,oX,S2,E2,h2⟩;cases m with
 |zero=>exact h2.elim|succ m=>
  refine⟨ι2,M2,oX,S2,E2,?_⟩;rw[BW]at h2;cases q:f oX M2 with
  |exc x M1=>rw[q]at h2;exact h2.elim|bad=>rw[q]at h2;exact h2.elim|ok d M1=>
   rw[q]at h2;cases d with
   | bl k=>
    cases k with
    |false=>intro H3 ι3 x3 S3;rw[if_neg (by decide)];exact h2 σ2 H3 ι3 x3 S3 (E2.mono x3)|true=>
     intro H3 ι3 x3 S3;rw[if_pos rfl];refine⟨λσ' H'=>∃ι4 M4 xP,aH X.K H' ι4 M4/\cO X.K H' ι4 xP σ'/\p_ X.K H' ι4 D (sX f u m xP M4),λσ' H' q=>⟨m,Fw _,q⟩,ι3,M1,oX,S3,E2.mono x3,?_⟩;have h3:=p_.up x3 h2;cases qu:u oX M1 with
     |nx e' M'=>simp only[qu]at h3;exactλσ' H' ι' x' S' E'=>⟨ι',M',e',S',E',h3.up x'⟩|ct e' M'=>simp only[qu]at h3;exactλσ' H' ι' x' S' E'=>⟨ι',M',e',S',E',h3.up x'⟩|bk e' M'=>simp only[qu]at h3;exact h3|rt d M'=>simp only[qu]at h3;exact h3
     |exc x' M'=>simp only[qu]at h3;exact h3.elim|bad=>simp only[qu]at h3;exact h3.elim
   |_=>exact h2.elim
end
theorem Rep.Xw(r:Rep K H ι d v):decide (v=V.non)=decide (d=D.non):=by
 cases d with
 |non=>rw[r.jD];rfl|bl b=>rw[r.gY];rfl|int i=>rw[r.int_inv];rfl|str x=>rw[r.str_inv];rfl
 |tup ds=>obtain⟨a,vs,e,_⟩:=r.ji;rw[e];rfl|bD ds=>obtain⟨a,vs,e,_⟩:=r.tR;rw[e];rfl|ref n=>obtain⟨a,_,e⟩:=r.dX;rw[e];rfl
theorem Zjf{x y:List Nat}:decide (V.str ⟨x.toArray⟩=V.str ⟨y.toArray⟩)=(x==y):=by
 by_cases h:x=y
 .subst h;simp
 .rw[decide_eq_false (λe=>h (by injection e with e1;injection e1 with e2;simpa using congrArg Bh e2))]
  exact(beq_eq_false_iff_ne.mpr h).symm
section
variable {X:Cx}
theorem Zr3:aO X (jb .Add) (λx y H Q=>∃a b ys,x= .ref a/\y= .ref b/\cW X.K H a []/\cW X.K H b ys/\Q (.ref b) H):=by
 intro pins s σ H x y v u Q I rx ry h;obtain⟨a,b,ys,rfl,rfl,ha,hb,q⟩:=h;cases rx;cases ry;obtain⟨its,r1,p1,_⟩:=I.tuple ha;obtain⟨its2,r2,p2,_⟩:=I.tuple hb;cases r1;obtain⟨⟨cls,dd,data,sl⟩,ho,hc,n,hd⟩:=id p1;obtain⟨⟨cls2,dd2,data2,sl2⟩,ho2,hc2,n2,hd2⟩:=id p2;simp only at hc hd hc2 hd2;subst hc hd hc2 hd2;exact QG ⟨_,ho,rfl⟩ ⟨_,ho2,rfl⟩ Qw QD Rm Rj (Ri _ _)
   (tuple_addW0 a b _ its2.toArray n n2 dd dd2 sl sl2 (by simp)) ⟨ho,ho2,⟨.ref b,H,I,rfl,q⟩⟩
theorem Zud(x y:List Nat):(⟨x.toArray⟩:aj)++⟨y.toArray⟩=⟨(x++y).toArray⟩:=by show Str.append _ _=_;unfold Str.append;simp
noncomputable def wI(o:Option D)(f:D->R3 D):R3 D:=match o with
 |some d=>f d|none=>.bad
theorem G_{Q:VK}{o:Option D}{f:D->R3 D}(h:Zv K H ι Q (wI o f)):∃x,o=Ya x/\Zv K H ι Q (f x):=by
 cases o with
 |none=>exact h.elim|some x=>exact⟨x,rfl,h⟩
noncomputable def onN(o:Option Nat)(f:Nat->R3 D):R3 D:=match o with
 |some d=>f d|none=>.bad
theorem ZtK{Q:VK}{o:Option Nat}{f:Nat->R3 D}(h:Zv K H ι Q (onN o f)):∃x,o=Ya x/\Zv K H ι Q (f x):=by
 cases o with
 |none=>exact h.elim|some x=>exact⟨x,rfl,h⟩
noncomputable def yX(o:Option MO)(f:List D->R3 D):R3 D:=match o with
 |some (.lst x)=>f x|_=>.bad
theorem Lw{Q:VK}{o:Option MO}{f:List D->R3 D}(h:Zv K H ι Q (yX o f)):∃x,o=Ya (.lst x)/\Zv K H ι Q (f x):=by
 cases o with
 |none=>exact h.elim|some o=>cases o with
  |lst x=>exact⟨x,rfl,h⟩|_=>exact h.elim
noncomputable def ZxB(a b:Option MO)(f:List D->List D->R3 D):R3 D:=match a,b with
 |some (.lst x),Ya (.lst y)=>f x y|_,_=>.bad
theorem Zsp{Q:VK}{a b:Option MO}{f:List D->List D->R3 D}(h:Zv K H ι Q (ZxB a b f)):∃x y,a=Ya (.lst x)/\b=Ya (.lst y)/\Zv K H ι Q (f x y):=by
 cases a with
 |none=>exact h.elim|some a=>cases a with
  | lst x=>cases b with
   |none=>exact h.elim|some b=>cases b with
    |lst y=>exact⟨x,y,rfl,rfl,h⟩|_=>exact h.elim
  |_=>exact h.elim
theorem wJ{Q:VK}{c:Prop}{_:Decidable c}(h:Zv K H ι Q (if c then r else .bad)):c/\Zv K H ι Q r:=by
 by_cases hc:c
 .rw[if_pos hc]at h;exact⟨hc,h⟩
 .rw[if_neg hc]at h;exact h.elim
theorem ZmI(r:au K H ι ds []):ds=[]:=Jj r.length.symm
theorem cP:aO X (jb .Add) (r2 X.K aN):=aO.imp (aO.or ZvX (aO.or ZnK (aO.or ZvU (aO.or Ztr Zr3)))) λx y H Q ak=>by
 obtain⟨ι,M,a,b,S,ra,rb,h⟩:=ak;cases a with
 |int i=>cases b with
  |int j=>exact .inl ⟨i,j,ra.int_inv,rb.int_inv,Zv.ok h S Rep.int⟩|_=>exact h.elim
 | str x=>cases b with
  |str y=>obtain⟨hz,h⟩:=wJ h;exact .inr (.inl ⟨_,_,ra.str_inv,rb.str_inv,Yi hz kj,by rw[Zud];exact Zv.ok h S Rep.str⟩)|_=>exact h.elim
 | tup x=>cases b with
  | tup y=>
   obtain⟨hz,h⟩:=wJ h;obtain⟨p,vs,e,s,r⟩:=ra.ji;obtain⟨q,ws,e',s',r'⟩:=rb.ji;by_cases hv:vs=[]
   .rw[hv]at r s;rw[ZmI r]at h;exact .inr (.inr (.inr (.inr ⟨p,q,ws,e,e',s,s',Zv.ok h S (Rep.tup s' r')⟩)))
   .refine .inr (.inr (.inr (.inl ⟨p,q,vs,ws,e,e',s,s',hv,by rw[r.length,r'.length];exact Yi hz kj,λhw=>?_,λhw p' hp=>?_⟩)))
    .rw[hw]at r';rw[ZmI r',kO]at h;exact Zv.ok h S (Rep.tup s r)
    .obtain⟨x2,S2,r2⟩:=S.vC hp (r.append r');exact h _ _ _ x2 S2 r2
  |_=>exact h.elim
 | ref n=>cases b with
  |ref m=>have h:Zv X.K H ι Q (ZxB M[n]? M[m]? λx y=>@ite _ (x.length+y.length<=SZ) (Y0 _) (alloc (.lst (x++y)) M) .bad):=h;obtain⟨x,y,hn,hm,h⟩:=Zsp h;obtain⟨hz,h⟩:=wJ h;obtain⟨p,hp,e⟩:=ra.dX;obtain⟨q,hq,e'⟩:=rb.dX;obtain⟨vs,e1,r1⟩:=S.obj n _ p hn hp;obtain⟨ws,e2,r2⟩:=S.obj m _ q hm hq;refine .inr (.inr (.inl ⟨p,q,vs,ws,e,e',e1,e2,by rw[r1.length,r2.length];exact Yi hz kj,λp' hp'=>?_⟩));obtain⟨x2,S2,r3⟩:=S.lst hp' (r1.append r2);exact h _ _ _ x2 S2 r3|_=>exact h.elim
 |_=>cases b<;>exact h.elim
theorem wK:aO X (jb .Sub) (r2 X.K iH):=aO.imp Zu3 λx y H Q ak=>by obtain⟨ι,M,a,b,S,ra,rb,h⟩:=ak;cases a<;>cases b<;>first|exact h.elim|exact⟨_,_,ra.int_inv,rb.int_inv,Zv.ok h S Rep.int⟩
theorem fJ:aO X (jb .Mod) (r2 X.K aY):=aO.imp Zvf λx y H Q ak=>by
 obtain⟨ι,M,a,b,S,ra,rb,h⟩:=ak;cases a with
 | int i=>cases b with
  | int j=>
   simp only[Zmp]at h;split at h
   .rename_i hj;exact⟨i,j,ra.int_inv,rb.int_inv,hj,Zv.ok h S Rep.int⟩
   .exact h.elim
  |_=>exact h.elim
 |_=>cases b<;>exact h.elim
theorem jg:aO X (jb .FloorDiv) (r2 X.K b8):=aO.imp Zub λx y H Q ak=>by
 obtain⟨ι,M,a,b,S,ra,rb,h⟩:=ak;cases a with
 | int i=>cases b with
  | int j=>
   simp only[Zk3]at h;split at h
   .rename_i hj;exact⟨i,j,ra.int_inv,rb.int_inv,hj,Zv.ok h S Rep.int⟩
   .exact h.elim
  |_=>exact h.elim
 |_=>cases b<;>exact h.elim
theorem Zx1:aO X (jb .Pow) (r2 X.K La):=aO.imp Zwr λx y H Q ak=>by
 obtain⟨ι,M,a,b,S,ra,rb,h⟩:=ak;cases a with
 | int i=>cases b with
  | int j=>
   simp only[ZmS]at h;split at h
   .rename_i hj;exact⟨i,j,ra.int_inv,rb.int_inv,⟨hj.1,iN [] [_] 1 0xf42405b083e83b081 T1 hj.2.1,by have:=hj.2.2;omega⟩,Zv.ok h S Rep.int⟩
   .exact h.elim
  |_=>exact h.elim
 |_=>cases b<;>exact h.elim
theorem jW:uD X (JM .USub) (r1 X.K cL):=uD.imp ZvC λx H Q ak=>by
 obtain⟨ι,M,a,S,ra,h⟩:=ak;cases a with
 |int i=>exact⟨i,ra.int_inv,Zv.ok h S Rep.int⟩|_=>exact h.elim
theorem wL:aO X (d7 .Lt) (r2 X.K fQ):=aO.imp Zyg λx y H Q ak=>by obtain⟨ι,M,a,b,S,ra,rb,h⟩:=ak;cases a<;>cases b<;>first|exact h.elim|exact⟨_,_,ra.int_inv,rb.int_inv,Zv.ok h S Rep.bl⟩
theorem T6:aO X (d7 .LtE) (r2 X.K o5):=aO.imp Zxg λx y H Q ak=>by obtain⟨ι,M,a,b,S,ra,rb,h⟩:=ak;cases a<;>cases b<;>first|exact h.elim|exact⟨_,_,ra.int_inv,rb.int_inv,Zv.ok h S Rep.bl⟩
theorem qi:aO X (d7 .Gt) (r2 X.K cX):=aO.imp ZxH λx y H Q ak=>by obtain⟨ι,M,a,b,S,ra,rb,h⟩:=ak;cases a<;>cases b<;>first|exact h.elim|exact⟨_,_,ra.int_inv,rb.int_inv,Zv.ok h S Rep.bl⟩
theorem Hf:aO X (d7 .Is) (r2 X.K o6):=aO.imp ZuT λx y H Q ak=>by
 obtain⟨ι,M,a,b,S,ra,rb,h⟩:=ak;cases b with
 |non=>exact⟨rb.jD,by rw[ra.Xw];exact Zv.ok h S Rep.bl⟩|_=>exact h.elim
theorem Zuc:aO X (d7 .IsNot) (r2 X.K Gv):=aO.imp Ztt λx y H Q ak=>by
 obtain⟨ι,M,a,b,S,ra,rb,h⟩:=ak;cases b with
 |non=>exact⟨rb.jD,by rw[ra.Xw];exact Zv.ok h S Rep.bl⟩|_=>exact h.elim
end
theorem units_in1(A:bW):A.in1.units=A.units+1:=rfl
variable{A:bW}{es:List D}
section
variable {X:Cx} {pins:List (Y4×aP)} {σ:St} {H:Hp} {s:Yl} {ι:List Y4}
theorem Zmd{e:Nat->Bool}:∀{x y:List D},x.length=y.length->(∀(j:Nat) a b,x[j]?=Ya a->y[j]?=Ya b->e j=dh a b)->(iC x.length).all e=iV x y:=by
 intro x
 induction x generalizing e with
 |nil=>intro y h _;cases y with|nil=>rfl|cons _ _=>simp at h
 | cons a x ih=>
  intro y h he;cases y with
  |nil=>simp at h|cons b y=>rw[Yk,Z9,kW,List.all_map,he 0 a b rfl rfl];rw[Te];congr 1;exact ih (e:=e ∘ Nat.succ) (by simpa using h) λj a' b' h1 h2=>he (j+1) a' b' (by simpa using h1) (by simpa using h2)
theorem Znh:∀{x y:List D},iV x y=true->x.length=y.length
 |[],[],_=>rfl|[],_::_,h=>ft h|_::_,[],h=>ft h|a::x,b::y,h=>congrArg Nat.succ (Znh (v9.mp (h:(dh a b&&iV x y)=true)).2)
theorem Lx(h:dF 0 d=true):cJ d=true:=by cases d<;>first|exact rfl|exact h
theorem Cj(h:dF (n+1) d=true):cJ d=true\/∃ds,d= .tup ds:=by
 cases d with
 |tup ds=>exact .inr ⟨ds,rfl⟩|bD _=>exact ft h|ref _=>exact ft h|_=>exact .inl rfl
theorem Zla{a b:D}(fa:cJ a=true)(fb:cJ b=true)(r:Rep K H ι a v)(q:Rep K H ι b v):dh a b=true:=by
 cases a with
 |non=>have e:=r.jD;cases b with
  |non=>rfl|bl _=>cases e.symm.trans q.gY|int _=>cases e.symm.trans q.int_inv|str _=>cases e.symm.trans q.str_inv
  |_=>exact ft fb
 |bl x=>have e:=r.gY;cases b with
  |non=>cases e.symm.trans q.jD|bl _=>exact beq_iff_eq.mpr (V.bl.inj (e.symm.trans q.gY))|int _=>cases e.symm.trans q.int_inv|str _=>cases e.symm.trans q.str_inv
  |_=>exact ft fb
 |int x=>have e:=r.int_inv;cases b with
  |non=>cases e.symm.trans q.jD|bl _=>cases e.symm.trans q.gY|int _=>exact beq_iff_eq.mpr (V.int.inj (e.symm.trans q.int_inv))|str _=>cases e.symm.trans q.str_inv
  |_=>exact ft fb
 |str x=>have e:=r.str_inv;cases b with
  |non=>cases e.symm.trans q.jD|bl _=>cases e.symm.trans q.gY|int _=>cases e.symm.trans q.int_inv|str _=>exact Zjf.symm.trans (decide_eq_true (e.symm.trans q.str_inv))
  |_=>exact ft fb
 |_=>exact ft fa
theorem ZmJ{a:D}{p:Y4}(fa:cJ a=true)(r:Rep K H ι a v)(e:v= .ref p):False:=by
 cases a with
 |non=>cases e.symm.trans r.jD|bl x=>cases e.symm.trans r.gY|int x=>cases e.symm.trans r.int_inv|str x=>cases e.symm.trans r.str_inv
 |_=>exact ft fa
theorem Rep.fun1(I:Inv X pins σ H s):∀(n:Nat) (a b:D) (v:V),dF n a=true->dF n b=true->Rep X.K H ι a v->Rep X.K H ι b v->dh a b=true:=by
 intro n
 induction n with
 |zero=>intro a b v ha hb r q;exact Zla (Lx ha) (Lx hb) r q|succ n ih=>
  intro a b v ha hb r q;rcases Cj ha with fa|⟨ds,ea⟩
  .rcases Cj hb with fb|⟨es,eb⟩
   .exact Zla fa fb r q
   .rw[eb]at q;obtain⟨p,vs,e,_⟩:=q.ji;exact(ZmJ fa r e).elim
  .rw [ea]at r ha ⊢;obtain⟨p,vs,e,s1,r1⟩:=r.ji;rcases Cj hb with fb|⟨es,eb⟩
   .exact(ZmJ fb q e).elim
   .rw[eb]at q hb ⊢;obtain⟨p',ws,e',s2,r2⟩:=q.ji;rw[←V.ref.inj (e.symm.trans e')]at s2;rw[←I.O7 s1 s2]at r2;clear s1 s2 e e' q r eb ea;rw[ZuM];revert ha hb r1 r2
    induction ds generalizing es vs with
    |nil=>
     intro _ r1 _ r2;cases es with
     |nil=>rfl|cons _ _=>obtain⟨_,_,e,_⟩:=r2.cons_inv;cases r1.nil_inv.symm.trans e
    | cons d ds ih2=>
     intro h1 r1 h2 r2;obtain⟨v,ws,e,q1,q2⟩:=r1.cons_inv;cases es with
     |nil=>cases r2.nil_inv.symm.trans e|cons e' es=>obtain⟨v',ws',z,q3,q4⟩:=r2.cons_inv;obtain⟨z1,z2⟩:=je (z.symm.trans e);rw[z1]at q3;rw[z2]at q4;have g1:=v9.mp (h1:(dF n d&&ds.all (dF n))=true);have g2:=v9.mp (h2:(dF n e'&&es.all (dF n))=true);rw[Te,ih d e' v g1.1 g2.1 q1 q3];exact ih2 ws es g1.2 q2 g2.2 q4
theorem Ck{x:V}(r:Rep K H ι .non x)(e:RelV x u):u= .none:=by rw[r.jD]at e;cases e;rfl
theorem wM{b:Bool}{x:V}(r:Rep K H ι (.bl b) x)(e:RelV x u):u= .bool b:=by rw[r.gY]at e;cases e;rfl
theorem wN{i:Int}{x:V}(r:Rep K H ι (.int i) x)(e:RelV x u):∃t,u= .int i t:=by rw[r.int_inv]at e;exact e
theorem wO{i:List Nat}{x:V}(r:Rep K H ι (.str i) x)(e:RelV x u):∃t,u= .str ⟨i.toArray⟩ t:=by rw[r.str_inv]at e;exact e
inductive T7(X:Cx)(H:Hp)(ι:List Y4)(T:Y4->Array Yh->Prop)(ds:List D)(x:V)(u:Yh):Prop
 |mk (p:Y4) (vs:List V) (its:List Yh):x= .ref p->u= .ref p->T p its.toArray->au X.K H ι ds vs->Vals vs its->T7 X H ι T ds x u
theorem yZ(I:Inv X pins σ H s){x:V}(r:Rep X.K H ι (.tup ds) x)(e:RelV x u):T7 X H ι s.heap.IsTuple ds x u:=by obtain⟨p,vs,ex,s1,r1⟩:=r.ji;obtain⟨its,rvs,ht,_⟩:=I.tuple s1;rw[ex]at e;exact⟨p,vs,its,ex,e,ht,r1,rvs⟩
theorem Su{i k:List Nat}:decide (i=k)=((⟨i.toArray⟩:aj)==⟨k.toArray⟩):=by
 rw[←JX,←Zjf];by_cases h:(⟨i.toArray⟩:aj)=⟨k.toArray⟩
 .rw[h,beq_self_eq_true];exact decide_eq_true rfl
 .rw[beq_eq_false_iff_ne.mpr h];exact decide_eq_false λe=>h (V.str.inj e)
theorem ZtD{i k:List Nat}:dh (.str i) (.str k)=((⟨i.toArray⟩:aj)==⟨k.toArray⟩):=wj (show(i==k)=decide (i=k)from JX i k) Su
theorem Ly(A:bW)(a b:D)(x y:V)(u v:Yh)(ha:cJ a=true)(hb:cJ b=true)(ra:Rep X.K H ι a x)(rb:Rep X.K H ι b y)(ru:RelV x u)(rv:RelV y v):sy A s u v (dh a b):=by
 cases a with
 |non=>rw[Ck ra ru];cases b with
  |non=>rw[Ck rb rv];exact RB _|bl k=>rw[wM rb rv];exact Yi4 _|int k=>obtain⟨t,e⟩:=wN rb rv;rw[e];exact Yjj _ _|str k=>obtain⟨t,e⟩:=wO rb rv;rw[e];exact Yjk _ _
  |_=>exact ft hb
 |bl i=>rw[wM ra ru];cases b with
  |non=>rw[Ck rb rv];exact Yi5 _|bl k=>rw[wM rb rv];exact Yi6 _ _|int k=>obtain⟨t,e⟩:=wN rb rv;rw[e];exact Yjl _ _ _|str k=>obtain⟨t,e⟩:=wO rb rv;rw[e];exact Yjm _ _ _
  |_=>exact ft hb
 |int i=>obtain⟨t0,e0⟩:=wN ra ru;rw[e0];cases b with
  |non=>rw[Ck rb rv];exact Yjn _ _|bl k=>rw[wM rb rv];exact Yjo _ _ _|int k=>obtain⟨t,e⟩:=wN rb rv;rw[e];exact Ykd _ _ _ _|str k=>obtain⟨t,e⟩:=wO rb rv;rw[e];exact Rz _ _ _ _
  |_=>exact ft hb
 |str i=>obtain⟨t0,e0⟩:=wO ra ru;rw[e0];cases b with
  |non=>rw[Ck rb rv];exact Yjp _ _|bl k=>rw[wM rb rv];exact Yjq _ _ _|int k=>obtain⟨t,e⟩:=wN rb rv;rw[e];exact Kd _ _ _ _|str k=>obtain⟨t,e⟩:=wO rb rv;rw[e,ZtD];exact Yke _ _ _ _
  |_=>exact ft hb
 |_=>exact ft ha
noncomputable def Hg(ds es:List D)(j:Nat):Bool:=match ds[j]?,es[j]? with|some a,Ya b=>dh a b|_,_=>false
theorem Zpw(hl:ds.length≠es.length):iV ds es=false:=by
 cases q:iV ds es with
 |false=>rfl|true=>exact absurd (Znh q) hl
theorem ZpH(hn:n=ds.length)(hl:ds.length=es.length):(iC n).all (Hg ds es)=iV ds es:=by rw[hn];exact Zmd hl λj a b h1 h2=>by unfold Hg;rw[h1,h2]
theorem Zph{m:Nat}(hn:n=ds.length)(hm:m=es.length):((iC (jN n m)).all (Hg ds es)&&n==m)=iV ds es:=by
 by_cases hl:ds.length=es.length
 .have e:n=m:=hn.trans (hl.trans hm.symm);rw[←e,Nat.min_self,beq_self_eq_true,J0];exact ZpH hn hl
 .rw[Zpw hl,beq_eq_false_iff_ne.mpr λe=>hl (hn.symm.trans (e.trans hm)),yj]
theorem pq{its:List Yh}(r:au X.K H ι ds vs)(v:Vals vs its):its.toArray.size=ds.length:=Yq.trans (v.length.symm.trans r.length)
theorem T8{ws:List V}{its its2:List Yh}(ih:∀(a b:D) (x y:V) (u v:Yh),dF n a=true->dF n b=true->Rep X.K H ι a x->Rep X.K H ι b y->RelV x u->RelV y v->sy A s u v (dh a b))(p1:ds.all (dF n)=true)(p2:es.all (dF n)=true)(r1:au X.K H ι ds vs)(r2:au X.K H ι es ws)(v1:Vals vs its)(v2:Vals ws its2)(j:Nat)(h1:j<its.toArray.size)(h2:j<its2.toArray.size):sy A s its.toArray[j] its2.toArray[j] (Hg ds es j):=by
 have k1:j<ds.length:=by rw[←pq r1 v1];exact h1
 have k2:j<es.length:=by rw[←pq r2 v2];exact h2
 have q1:=Y3 k1;have q2:=Y3 k2;obtain⟨x,g1,z1⟩:=r1.get q1;obtain⟨y,g2,z2⟩:=r2.get q2;obtain⟨u,e1,l1⟩:=v1.get g1;obtain⟨v,e2,l2⟩:=v2.get g2;unfold Hg;rw[q1,q2];obtain⟨_,e1⟩:=Ye.mp e1;obtain⟨_,e2⟩:=Ye.mp e2;exact ih _ _ x y _ _ (iw.mp p1 _ (t8 k1)) (iw.mp p2 _ (t8 k2)) z1 z2 (e1▸l1) (e2▸l2)
theorem Zml(A:bW)(hu1:A.units<jL){a:D}{x:V}{p:Y4}{its:Array Yh}(ha:cJ a=true)(ra:Rep X.K H ι a x)(ru:RelV x u)(it:s.heap.IsTuple p its):sy A s u (.ref p) (dh a (.tup es))/\sy A s (.ref p) u (dh (.tup es) a):=by
 cases a with
 |non=>rw[Ck ra ru];exact⟨SeqAt.EqAt.none_tuple it hu1,SeqAt.EqAt.tuple_none it hu1⟩|bl k=>rw[wM ra ru];exact⟨SeqAt.EqAt.bool_tuple _ it hu1,SeqAt.EqAt.tuple_bool _ it hu1⟩|int k=>obtain⟨t,e⟩:=wN ra ru;rw[e];exact⟨SeqAt.EqAt.int_tuple _ _ it hu1,SeqAt.EqAt.tuple_int _ _ it hu1⟩|str k=>obtain⟨t,e⟩:=wO ra ru;rw[e];exact⟨SeqAt.EqAt.str_tuple _ _ it hu1,SeqAt.EqAt.tuple_str _ _ it hu1⟩
 |_=>exact ft ha
theorem Zrx(I:Inv X pins σ H s):∀(n:Nat) (A:bW) (_:A.units+n+1<jL) (a b:D) (x y:V) (u v:Yh),dF n a=true->dF n b=true->Rep X.K H ι a x->Rep X.K H ι b y->RelV x u->RelV y v->sy A s u v (dh a b):=by
 intro n
 induction n with
 |zero=>intro A hu a b x y u v ha hb ra rb ru rv;exact Ly A a b x y u v (Lx ha) (Lx hb) ra rb ru rv|succ n ih=>
  intro A hu a b x y u v ha hb ra rb ru rv;have hu0:A.units+0+1<jL:=lC 1 0x2ae0cc12aa1c0cc11 T1 hu;have hu1:A.units<jL:=lB 1 1104257534993 T1 hu0;rcases Cj ha with fa|⟨ds,ea⟩
  .rcases Cj hb with fb|⟨es,eb⟩
   .exact Ly A a b x y u v fa fb ra rb ru rv
   .rw[eb]at rb ⊢;obtain⟨p,vs,its,ex,eu,t,_⟩:=yZ I rb rv;rw[eu];exact(Zml A hu1 fa ra ru t).1
  .rw[ea]at ra ha ⊢;obtain⟨p,vs,its,ex,eu,t,r1,v1⟩:=yZ I ra ru;rw[eu];rcases Cj hb with fb|⟨es,eb⟩
   .exact(Zml A hu1 fb rb rv t).2
   .rw[eb]at rb hb ⊢;obtain⟨q,ws,its2,ey,ev,t',r2,v2⟩:=yZ I rb rv;rw[ev];by_cases hp:p=q
    .rw[ey,←hp,←ex]at rb;rw[Rep.fun1 I (n+1) _ _ _ ha hb ra rb,hp];exact RB _
    .refine SeqAt.EqAt.of_refs hp ?_;rw[ZuM,←Zph (pq r1 v1) (pq r2 v2)];exact Yku t t' hu1 (T8 (ih A.in1 (by rw[units_in1];exact lC 1 0x2a1a0ccc12aa1c0cc11 T1 hu)) ha hb r1 r2 v1 v2)
end
section
variable {X:Cx}
section
variable {pins:List (Y4×aP)} {σ:St} {H:Hp} {s:Yl} {ι:List Y4}
theorem Lz(I:Inv X pins σ H s)(S:aH X.K H ι M){x:V}(h:M[n]?=Ya (.lst ds))(r:Rep X.K H ι (.ref n) x)(e:RelV x u):T7 X H ι s.heap.IsList ds x u:=by obtain⟨p,hp1,ex⟩:=r.dX;obtain⟨vs,e1,r1⟩:=S.obj n _ p h hp1;obtain⟨its,rvs,pl1,_⟩:=I.list (bM.of e1);rw[ex]at e;exact⟨p,vs,its,ex,e,pl1.isList,r1,rvs⟩
inductive y_(M:Store)(a b:D)(k:Bool):Prop
 |ref {n m:Nat} (ds es:List D):a= .ref n->b= .ref m->iV ds es=k->M[n]?=Ya (.lst ds)->M[m]?=Ya (.lst es)->ds.all (dF DEEP)=true/\es.all (dF DEEP)=true->y_ M a b k
 |int (i j:Int):a= .int i->b= .int j->decide (i=j)=k->y_ M a b k
 |str (i j:List Nat):a= .str i->b= .str j->decide (i=j)=k->y_ M a b k
 |bl (i j:Bool):a= .bl i->b= .bl j->decide (i=j)=k->y_ M a b k
 |tup {ds es:List D}:a= .tup ds->b= .tup es->iV ds es=k->ds.all (dF DEEP)=true/\es.all (dF DEEP)=true->y_ M a b k
theorem T9{c d:Bool}{a k:α}(h:(if c&&d then Ya a else Ym)=Ya k):a=k/\c=true/\d=true:=by
 cases c with
 |false=>exact jq h|true=>cases d with
  |false=>exact jq h|true=>exact⟨Y2 h,rfl,rfl⟩
noncomputable def ZyV(a b:Option MO):Option Bool:=match a,b with
 |some (.lst x),Ya (.lst y)=>if x.all (dF DEEP)&&y.all (dF DEEP)then Ya (iV x y)else Ym|_,_=>Ym
theorem ZtG{m:Nat}{k:Bool}(h:ZyV M[n]? M[m]?=Ya k):y_ M (.ref n) (.ref m) k:=by
 cases e1:M[n]? with
 |none=>rw[e1]at h;exact jq h|some o=>cases o with
  | lst x=>cases e2:M[m]? with
   |none=>rw[e1,e2]at h;exact jq h|some o=>cases o with
    |lst y=>rw[e1,e2]at h;exact have w:=T9 h;.ref x y rfl rfl w.1 e1 e2 w.2|_=>rw[e1,e2]at h;exact jq h
  |_=>rw[e1]at h;exact jq h
theorem eqK{a b:D}{k:Bool}(h:qR a b M=Ya k):y_ M a b k:=by
 cases a with
 |ref n=>cases b with
  |ref m=>exact ZtG h|_=>exact jq h
 |int i=>cases b with
  |int j=>exact .int i j rfl rfl (Y2 h)|_=>exact jq h
 |str i=>cases b with
  |str j=>exact .str i j rfl rfl (Y2 h)|_=>exact jq h
 |bl i=>cases b with
  |bl j=>exact .bl i j rfl rfl (Y2 h)|_=>exact jq h
 |tup ds=>cases b with
  |tup es=>exact have w:=T9 h;.tup rfl rfl w.1 w.2|_=>exact jq h
 |_=>cases b<;>exact jq h
theorem T_{a b:D}{x y:V}{v:Yh}{k:Bool}(hu:X.A.units+80<jL)(I:Inv X pins σ H s)(S:aH X.K H ι M)(ra:Rep X.K H ι a x)(rb:Rep X.K H ι b y)(ru:RelV x u)(rv:RelV y v)(h:qR a b M=Ya k):SeqAt.RcAt X.A s u v k/\SeqAt.RcNeAt X.A s u v (!k):=by
 have hu1:X.A.units<jL:=lB 1 17666545486865 T1 hu;have hu2:X.A.in1.units+DEEP+1<jL:=by rw[units_in1];exact(show X.A.units+1+60+1<jL from lB 1 0x1a3c2ba0ccc11502b0c11 T1 hu)
 rcases eqK h with⟨ds,es,ea,eb,ek,e1,e2,p1,p2⟩|⟨i,j,ea,eb,ek⟩|⟨i,j,ea,eb,ek⟩|⟨i,j,ea,eb,ek⟩|⟨ea,eb,ek,p1,p2⟩
 .rw[ea]at ra;rw[eb]at rb;rw[←ek];obtain⟨p,vs,its,_,eu,t,r1,v1⟩:=Lz I S e1 ra ru;obtain⟨q,ws,its2,_,ev,t',r2,v2⟩:=Lz I S e2 rb rv;rw[eu,ev];by_cases hl:ds.length=es.length
  .rw[←ZpH (pq r1 v1) hl];have hz:=(pq r1 v1).trans (hl.trans (pq r2 v2).symm);have w:=T8 (Zrx I DEEP X.A.in1 hu2) p1 p2 r1 r2 v1 v2;exact⟨SeqAt.RcAt.lists t t' hz hu1 w,SeqAt.RcNeAt.lists t t' hz hu1 w⟩
  .rw[Zpw hl];have hz:(its.toArray.size !=its2.toArray.size)=true:=bne_iff_ne.mpr λe=>hl ((pq r1 v1).symm.trans (e.trans (pq r2 v2)));exact⟨SeqAt.RcAt.lists_lengths t t' hz hu1,Ygk t t' hz hu1⟩
 .rw[ea]at ra;rw[eb]at rb;obtain⟨t,e⟩:=wN ra ru;obtain⟨t',e'⟩:=wN rb rv;rw[e,e',←ek,←JX];exact⟨SeqAt.RcAt.int_int _ _ _ _,SeqAt.RcNeAt.int_int _ _ _ _⟩
 .rw[ea]at ra;rw[eb]at rb;obtain⟨t,e⟩:=wO ra ru;obtain⟨t',e'⟩:=wO rb rv;rw[e,e',←ek,Su];exact⟨SeqAt.RcAt.str_str _ _ _ _,SeqAt.RcNeAt.str_str _ _ _ _⟩
 .rw[ea]at ra;rw[eb]at rb;rw[wM ra ru,wM rb rv,←ek,←JX];exact⟨SeqAt.RcAt.bool_bool _ _,SeqAt.RcNeAt.bool_bool _ _⟩
 .rw[ea]at ra;rw[eb]at rb;obtain⟨p,vs,its,_,eu,t,r1,v1⟩:=yZ I ra ru;obtain⟨q,ws,its2,_,ev,t',r2,v2⟩:=yZ I rb rv;rw[eu,ev,←ek,←Zph (pq r1 v1) (pq r2 v2)];have w:=T8 (Zrx I DEEP X.A.in1 hu2) p1 p2 r1 r2 v1 v2;exact⟨Yku t t' hu1 w,SeqAt.RcNeAt.tuples t t' hu1 w⟩
end
theorem eY(hu:X.A.units+80<jL):aO X (d7 .Eq) (r2 X.K bh):=by
 intro pins s σ H x y v u Q I rx ry h;obtain⟨ι,M,a,b,S,ra,rb,h⟩:=h;unfold bh at h;cases q:qR a b M with
 |none=>rw[q]at h;exact h.elim|some k=>rw[q]at h;exact(T_ hu I S ra rb rx ry q).1 X.prog X.w X.xe _ ⟨.bl k,H,I,rfl,Zv.ok h S Rep.bl⟩
theorem Ua{i:Int}(r:au K H ι ds vs)(h:g_ ds i=Ya d):∃v,yD vs i=Ya v/\Rep K H ι d v:=by
 unfold g_ at h;unfold yD;have e:Bt vs.length i=lW ds.length i:=by rw[r.length];rfl
 rw[e];cases q:lW ds.length i with
 |none=>rw[q]at h;cases h|some j=>rw[q]at h;exact r.get h
theorem bf:mQ X (r2 X.K Zn):=mQ.imp Zwx λx y H Q ak=>by
 obtain⟨ι,M,a,b,S,ra,rb,h⟩:=ak;cases a with
 | tup ds=>cases b with
  |int i=>have h:Zv X.K H ι Q (wI (g_ ds i) (λd=>.ok d M)):=h;obtain⟨d,q,h⟩:=G_ h;obtain⟨p,vs,e',s1,r1⟩:=ra.ji;obtain⟨v,e,rv⟩:=Ua r1 q;exact .inr (.inl ⟨p,vs,i,v,e',rb.int_inv,s1,e,Zv.ok h S rv⟩)|_=>exact h.elim
 | bD ds=>cases b with
  |int i=>have h:Zv X.K H ι Q (wI (g_ ds i) (λd=>.ok d M)):=h;obtain⟨d,q,h⟩:=G_ h;obtain⟨p,vs,e',s1,r1⟩:=ra.tR;obtain⟨v,e,rv⟩:=Ua r1 q;exact .inl ⟨p,vs,i,v,e',rb.int_inv,s1.sq,e,Zv.ok h S rv⟩|_=>exact h.elim
 | str z=>cases b with
  |int i=>have h:Zv X.K H ι Q (onN (g_ z i) (λc=>@ite _ (z.length<=SZ) (Y0 _) (.ok (.str [c]) M) .bad)):=h;obtain⟨c,q,h⟩:=ZtK h;obtain⟨hz,h⟩:=wJ h;exact .inr (.inr ⟨_,i,c,ra.str_inv,rb.int_inv,Yi hz kj,q,Zv.ok h S Rep.str⟩)|_=>exact h.elim
 | ref n=>cases b with
  |int i=>have h:Zv X.K H ι Q (yX (M[n]?) (λds=>wI (g_ ds i) λd=>.ok d M)):=h;obtain⟨ds,hn,h⟩:=Lw h;obtain⟨d,q,h⟩:=G_ h;obtain⟨p,hp,e'⟩:=ra.dX;obtain⟨vs,e1,r1⟩:=S.obj n _ p hn hp;obtain⟨v,e,rv⟩:=Ua r1 q;exact .inl ⟨p,vs,i,v,e',rb.int_inv,bM.of e1,e,Zv.ok h S rv⟩|_=>exact h.elim
 |_=>cases b<;>exact h.elim
theorem Ub(r:au K H ι ds vs)(lo hi:Option Int):au K H ι (cutD ds lo hi) (wA vs lo hi):=by
 have e:∀n d o,_HT.aF n d o=aF n d o:=λn d o=>by cases o<;>rfl
 unfold cutD wA;rw[e,e,r.length];exact(r.drop _).take _
end
noncomputable def gU(cells:List (aj×Y4)):List (aj×NameKind)->List (aj×Y4)->List (aj×Y4)
 |[],cs=>cs|(n,k)::r,cs=>gU cells r (if k== .free then(n,(cells.lookup n).getD 0)::cs else cs)
theorem Hh{cells:List (aj×Y4)}{n:aj}{k:NameKind}{r:List (aj×NameKind)}{cs:List (aj×Y4)}:gU cells ((n,k)::r) cs=gU cells r (if k== .free then(n,(cells.lookup n).getD 0)::cs else cs):=rfl
theorem LC{scope:Scope}{env:gj}(h:∀y∈scope.names,y.2= .free->∃c,env.cells.lookup y.1=Ya c):closureFor scope env=pure (gU env.cells scope.names []):=by
 unfold closureFor;have key:∀(names:List (aj×NameKind)) (cs:List (aj×Y4)),(∀y∈names,y.2= .free->∃c,env.cells.lookup y.1=Ya c) ->
   (forIn names cs λx r=>match x with|(name,kind)=>if(kind==NameKind.free)=true then do let c ←cellOf env name;pure (ForInStep.yield ((name,c)::r))else pure (ForInStep.yield r):pN (List (aj×Y4)))=pure (gU env.cells names cs):=by
  intro names
  induction names with
  |nil=>intro cs _;rfl|cons y r ih=>
   intro cs hy;obtain⟨n,k⟩:=y;rw[List.forIn_cons];by_cases hk:k= .free
   .subst hk;obtain⟨c,hc⟩:=hy (n,.free) Yc rfl;have e1:cellOf env n=pure c:=by unfold cellOf;rw[hc]
    simp only[beq_self_eq_true,if_true,e1,pure_bind];rw[ih _ λz hz=>hy z (Yd _ hz)];rw[Hh,hc];rfl
   .have hb:(k==NameKind.free)=false:=by simpa using hk
    simp only[hb,Ba,if_false,pure_bind];rw[ih _ λz hz=>hy z (Yd _ hz)];rw[Hh,hb];rfl
 have:=key scope.names [] h
 first
  |exact this
  |(simp only[bind_pure];exact this)
theorem ZpT{cells:List (aj×Y4)}{c:Y4}:∀(names:List (aj×NameKind)) (cs:List (aj×Y4)),(∀y∈names,y.2= .free->∃c,cells.lookup y.1=Ya c)->(gU cells names cs).lookup x=Ya c->cs.lookup x=Ya c\/cells.lookup x=Ya c:=by
 intro names
 induction names with
 |nil=>intro cs _ h;exact .inl h|cons y r ih=>
  intro cs hy h;obtain⟨n,k⟩:=y;rw[Hh]at h;rcases ih _ (λz hz=>hy z (Yd _ hz)) h with q|q
  .by_cases hk:k= .free
   .subst hk;obtain⟨c0,hc⟩:=hy (n,.free) Yc rfl;simp only[beq_self_eq_true,if_true,hc,Option.getD_some,lQ]at q;cases hx:x==n with
    |true=>
     simp only[hx]at q;cases q;have:x=n:=by simpa using hx
     subst this;exact .inr hc
    |false=>simp only[hx]at q;exact .inl q
   .have hb:(k==NameKind.free)=false:=by simpa using hk
    simp only[hb,Ba,if_false]at q;exact .inl q
  .exact .inr q
theorem ZnU{cells:List (aj×Y4)}:∀(names:List (aj×NameKind)) (cs:List (aj×Y4)),(cs.lookup x).isSome=true->((gU cells names cs).lookup x).isSome=true:=by
 intro names
 induction names with
 |nil=>intro cs h;exact h|cons y r ih=>
  intro cs h;obtain⟨n,k⟩:=y;rw[Hh];refine ih _ ?_;split
  .rw[lQ];split
   .rfl
   .exact h
  .exact h
theorem ZkO{cells:List (aj×Y4)}:∀(names:List (aj×NameKind)) (cs:List (aj×Y4)),(x,NameKind.free)∈names->((gU cells names cs).lookup x).isSome=true:=by
 intro names
 induction names with
 |nil=>intro cs h;cases h|cons y r ih=>
  intro cs h;obtain⟨n,k⟩:=y;rw[Hh];rcases Yo.mp h with e|h
  .cases e
   refine ZnU _ _ ?_;simp
  .exact ih _ h
noncomputable def fO(X:Cx)(scope:Scope)(N':List aj)(C:Y4)(cl:List (aj×Y4))(s:Yl)(H:Hp)(ex:List Y4):Cx:={X with N:=N',s₀:=s,H₀:=H,env:=Ft scope cl C X.env,outer:=X.stack,stack:=X.stack,ex:=ex,fn:=λ_=>false,pn:=[],xe:=λ_ _=>False}
noncomputable def Uc(N N':List aj)(scope:Scope):Bool:=(iC N.length).all λi=>match N'[i]? with
 |some x=>(scope.names.lookup x).isNone|| (decide (N[i]?=Ya x)&&decide (scope.names.lookup x=Ya .free))|none=>false
def qj(X:Cx)(ifs:List Expr)(ts:List E3):Prop:=∀(pins:List (Y4×aP)) (s:Yl) (σ:St) (H:Hp) (Q:Bool->Hp->Prop),Inv X pins σ H s ->
 (∃ι M env,aH X.K H ι M/\cO X.K H ι env σ/\match uI ts env M with| .ok b M'=>∀H' ι',Ext X.K H ι H' ι'->aH X.K H' ι' M'->Q b H'|_=>False) ->
 ao (aB X.prog X.w) X.A (forIn ifs true λc r=>if r=true then do let ok ←isTrue c X.env (aM c X.env);pure (ForInStep.yield ok)else pure (ForInStep.yield r)) (TP X pins σ Q) X.xe s
theorem mj:qj X [] []:=λpins s σ H Q I ⟨ι,M,env,S,E,h⟩=>wpAny_tests_nil ⟨H,I,h H ι Ext.refl S⟩
theorem ZtF{c:Expr}(hc:CT X c f):qj X [c] [f]:=λpins s σ H Q I ak=>by
 obtain⟨ι,M,env,S,E,h⟩:=ak;refine wpAny_tests_one (hc pins s σ H Q I ⟨ι,M,env,S,E,?_⟩);rw[GK]at h;cases q:f env M with
 | ok d M1=>
  rw[q]at h;cases d with
  |bl b=>cases b with
   |true=>exact h|false=>exact h
  |_=>exact h.elim
 |exc x M1=>rw[q]at h;exact h.elim|bad=>rw[q]at h;exact h.elim
section
variable {prog:bR} {w:bJ} {A:bW} {R:um->Yl->Prop} {s:Yl}
theorem Zh6{elt target iter:Expr}{ifs:List Expr}{scope:Scope}{pos:aZ}{it acc:Yh}{env:gj}(I:Nat->Yl->Prop)(turn:∀n s,I n s->ao (aB prog w) A (ul it) (λr s₁=>match r with
   |none=>R (.ok .next) s₁|some v=>ao (aB prog w) A (Fj target it v) (λ_ s₁'=>ao (aB prog w) A (jK target env v) (λ_ s₂=>
     ao (aB prog w) A (forIn ifs true λc r=>if r=true then do let ok ←isTrue c env (aM c env);pure (ForInStep.yield ok)else pure (ForInStep.yield r)) (λok s₃=>
      if ok=true then ao (aB prog w) A (aM elt env) (λx s₄=>ao (aB prog w) A (call (.builtin "list.append") [acc,x]) (λ_ s₅=>∃m,m<n/\I m s₅) (λ_ _=>False) s₄) (λ_ _=>False) s₃
      else∃m,m<n/\I m s₃) (λ_ _=>False) s₂) (λ_ _=>False) s₁') (λ_ _=>False) s₁) (λ_ _=>False) s)(n:Nat)(h:I n s):nR (aB prog w) A (.compLoop (.ListComp elt [⟨target,iter,ifs,0⟩] scope pos) 0 it acc env) R s:=by
 refine codeAny_loop rfl I (λn s hI=>?_) n h;show ao _ A ((compTurn (.ListComp elt [⟨target,iter,ifs,0⟩] scope pos) 0 it acc env).onRaise (λx=>do noteFrame x env;theTreesLotGoes x)) _ _ s;refine wpAny_noted ?_;rw[compTurn_list];refine Yg (vP (Yg (j7 (turn n s hI) (λr s₁ h₁=>?_) λ_ _ h'=>jM h')));cases r with
 |none=>exact Yv h₁|some v=>
  refine Yg (j7 h₁ (λ_ s₁' h₁'=>?_) λ_ _ h'=>jM h');refine Yg (j7 h₁' (λ_ s₂ h₂=>Yg (j7 h₂ (λok s₃ h₃=>?_) λ_ _ h'=>jM h')) λ_ _ h'=>jM h');cases ok with
  |false=>exact Yv ⟨rfl,h₃⟩|true=>exact Yg (Yg (j7 h₃ (λx s₄ h₄=>Yg (j7 h₄ (λ_ s₅ h₅=>Yv (Yv ⟨rfl,h₅⟩)) λ_ _ h'=>jM h')) λ_ _ h'=>jM h'))
end
theorem Ud{env:gj}{k:NameKind}:∀{names:List (aj×NameKind)},(names.map λ(n,k)=>if(k==NameKind.free&&env.scope.kind== .function&&env.kindOf n==Ya .cell)then(n,NameKind.cell)else(n,k)).lookup x=Ya k ->
  ∃k0,names.lookup x=Ya k0/\(k0=k\/(k0= .free/\k= .cell)):=by
 intro names
 induction names with
 |nil=>intro h;simp at h|cons y r ih=>
  intro h;obtain⟨n,k1⟩:=y;rw[Ys]at h;cases hx:x==n with
  | true=>
   refine⟨k1,by simp[lQ,hx],?_⟩;by_cases hc:(k1==NameKind.free&&env.scope.kind== .function&&env.kindOf n==Ya .cell)=true
   .simp only[if_pos hc,lQ,hx]at h;cases h;simp only[Y6,beq_iff_eq]at hc;exact .inr ⟨hc.1.1,rfl⟩
   .simp only[if_neg hc,lQ,hx]at h;cases h;exact .inl rfl
  | false=>
   have h':(r.map λ(n,k)=>if(k==NameKind.free&&env.scope.kind== .function&&env.kindOf n==Ya .cell)then(n,NameKind.cell)else(n,k)).lookup x=Ya k:=by
    by_cases hc:(k1==NameKind.free&&env.scope.kind== .function&&env.kindOf n==Ya .cell)=true
    .simp only[if_pos hc,lQ,hx]at h;exact h
    .simp only[if_neg hc,lQ,hx]at h;exact h
   obtain⟨k0,e,q⟩:=ih h';exact⟨k0,by simp[lQ,hx,e],q⟩
theorem Zl7{env:gj}:∀{names:List (aj×NameKind)},names.lookup x=Ya .free ->
  (names.map λ(n,k)=>if(k==NameKind.free&&env.scope.kind== .function&&env.kindOf n==Ya .cell)then(n,NameKind.cell)else(n,k)).lookup x=Ya .free\/
  (names.map λ(n,k)=>if(k==NameKind.free&&env.scope.kind== .function&&env.kindOf n==Ya .cell)then(n,NameKind.cell)else(n,k)).lookup x=Ya .cell:=by
 intro names
 induction names with
 |nil=>intro h;simp at h|cons y r ih=>
  intro h;obtain⟨n,k1⟩:=y;rw[Ys];cases hx:x==n with
  |true=>
   simp only[lQ,hx]at h;cases h;by_cases hc:(NameKind.free==NameKind.free&&env.scope.kind== .function&&env.kindOf n==Ya .cell)=true
   .simp only[if_pos hc,lQ,hx];exact .inr trivial
   .simp only[if_neg hc,lQ,hx];exact .inl trivial
  |false=>
   simp only[lQ,hx]at h;by_cases hc:(k1==NameKind.free&&env.scope.kind== .function&&env.kindOf n==Ya .cell)=true
   .simp only[if_pos hc,lQ,hx];exact ih h
   .simp only[if_neg hc,lQ,hx];exact ih h
section
variable {X:Cx} {pins:List (Y4×aP)} {σ:St} {H:Hp} {s:Yl} {scope:Scope} {N':List aj} {own:Nat} {fp:List Y4}
theorem Zmt(I:Inv X pins σ H s)(hk:scope.kind= .function)(hcell:∀y∈scope.names,y.2≠ .cell)(hfree:∀y∈scope.names,y.2= .free->X.env.kindOf y.1=Ya .cell\/X.env.kindOf y.1=Ya .free)(hN:N'.length=X.N.length+own)(hv:Uc X.N N' scope=true)(hfp:∀b∈fp,iU X pins H b)(hlt:∀b∈fp,b<s.heap.objs.size){h1:aR}{tk:Nat}(hns:h1.Ns s.heap.objs.size λ_=>Ym)(keep:∀b o,s.heap.get? b=Ya o->h1.get? b=Ya o):
  Inv (fO X scope N' s.heap.objs.size (gU X.env.cells scope.names []) s H fp) [] (σ++Yr own Ym) H {s with heap:=h1,toks:=tk}:=by
 have hc0:∀y∈scope.names,y.2= .free->∃c,X.env.cells.lookup y.1=Ya c:=λy hy e=>I.ok.has y.1 (hfree y hy e);have sub:∀x c,(gU X.env.cells scope.names []).lookup x=Ya c->X.env.cells.lookup x=Ya c:=λx c h=>by
  rcases ZpT scope.names [] hc0 h with q|q
  .simp at q
  .exact q
 have cellK:∀{c:Y4} {v:Option Yh},s.heap.IsCell c v->h1.IsCell c v:=λ⟨o,ho,hd⟩=>⟨o,keep _ o ho,hd⟩;refine⟨⟨I.ok.mod,hk,I.ok.glob,I.ok.blt,Yt _,λx y c h1 h2=>I.ok.inj x y c (sub x c h1) (sub y c h2),λx hx=>?_,λx c h=>?_,I.ok.hd,I.ok.frames,.inl rfl,λb hb=>⟨d8 (hlt b hb),λx c h=>(hfp b hb).2.2.2.2.1 x c (sub x c h)⟩,
   I.bs,Yi I.ok.qO I.sz,λb o e hb=>?_,λb hb hz=>?_,I.stack,I.Xr⟩,rfl,I.bare,Un.kept keep,⟨_,hns,λi x v h1 h2 h3=>?_⟩,λx c h=>?_,I.hok.fresh (Yt _),λx c h=>I.rQ x c (sub x c h),
  λp hp=>absurd (show p∈([]:List (Y4×aP))from hp) (by simp),I.hok.kept keep,?_⟩
 .have hx':(vW scope X.env).names.lookup x=Ya .cell\/(vW scope X.env).names.lookup x=Ya .free:=hx;have:scope.names.lookup x=Ya .free:=by
   rcases hx' with hx'|hx'
   .obtain⟨k0,e,q⟩:=Ud (names:=scope.names) hx';rcases q with q|⟨q,_⟩
    .subst q;exact absurd rfl (hcell _ (uf e))
    .rw[e,q]
   .obtain⟨k0,e,q⟩:=Ud (names:=scope.names) hx';rcases q with q|⟨_,q⟩
    .rw[e,q]
    .cases q
  exact Je.mp (ZkO scope.names [] (uf this))
 .cases h
 .obtain⟨_,_,_,q,_⟩:=hfp b hb;rcases q with q|q
  .exact I.ok.Eu b o e q
  .exact absurd (Y8 (Y7 e) (Yi I.ok.qO q)) (v6 _)
 .have hz':b∈frs X.stack:=hz;obtain⟨_,q1,q2,_⟩:=hfp b hb;rcases Yo.mp (I.Pa b hz')with e|e
  .exact q1 e
  .exact q2 e
 .have hi:i<σ.length:=by
   by_cases hi:i<σ.length
   .exact hi
   .rw[xQ (j8 hi),Jk]at h2;split at h2<;>cases h2
  rw[Yj hi]at h2;have Gb:i<X.N.length:=by rw[←I.len];exact hi
  have hN':N'[i]?=Ya x:=h1;have vq:=iw.mp hv i (Jr.mpr Gb);rw[hN']at vq;have h3':(vW scope X.env).names.lookup x=Ya .local\/(vW scope X.env).names.lookup x=Ya .cell\/(vW scope X.env).names.lookup x=Ya .free:=h3;have some_of:∃k0,scope.names.lookup x=Ya k0:=by rcases h3' with q|q|q<;>(obtain⟨k0,e,_⟩:=Ud (names:=scope.names) q;exact⟨k0,e⟩)
  obtain⟨k0,ek⟩:=some_of;simp only[ek,Option.isNone_some,Ymy,Y6,decide_eq_true_eq]at vq;obtain⟨vq1,vq2⟩:=vq;cases vq2;have hkind:=hfree (x,.free) (uf ek) rfl;obtain⟨m,hn,hl⟩:=I.loc;have AbD:Ks X.env.scope x:=by
   rcases hkind with q|q
   .exact .inr (.inl q)
   .exact .inr (.inr q)
  obtain⟨u,ru,lk⟩:=hl i x v vq1 h2 AbD;refine⟨u,ru,?_⟩;rcases lk with⟨kl,_⟩|⟨_,c,ec,ic⟩
  .rcases hkind with q|q<;>(rw[q]at kl;cases kl)
  .have hkk:(Ft scope (gU X.env.cells scope.names []) s.heap.objs.size X.env).kindOf x=Ya .cell\/(Ft scope (gU X.env.cells scope.names []) s.heap.objs.size X.env).kindOf x=Ya .free:=by
    rcases Zl7 (env:=X.env) ek with q|q
    .exact .inr q
    .exact .inl q
   obtain⟨c',ec'⟩:=Je.mp (ZkO (cells:=X.env.cells) scope.names [] (uf ek));have e2:=sub x c' ec';rw[ec]at e2;cases e2;exact .inr ⟨hkk,c,ec',cellK ic⟩
 .obtain⟨v,ic⟩:=I.cell x c (sub x c h);exact⟨v,cellK ic⟩
 .show(σ++Yr own Ym).length=N'.length;rw[Yf,nP,I.len,hN]
theorem cO.grow{H:Hp}{σ:St}(E:cO K H ι env σ)(n:Nat):cO K H ι (env++Yr n Ym) (σ++Yr n Ym):=by
 refine⟨by simp[E.1],λi d h=>?_⟩;by_cases hi:i<env.length
 .rw[Yj hi]at h;obtain⟨v,e,r⟩:=E.2 i d h;exact⟨v,by rw[Yj (by rw[←E.1];exact hi)];exact e,r⟩
 .rw[xQ (j8 hi),Jk]at h;split at h<;>cases h
end
section
structure Cb where
 Y:Cx
 fp:List Y4
 tn:Nat->aR->Prop
 aX:gm
 H2:Hp
 ι2:List Y4
 Q:VK
 g:G3
 ts:List E3
 f:E3
 nM:Nat
 acc:Y4
inductive Ue(P:Cb)(n:Nat)(s':Yl):Prop
 | mk (k:Nat) (σ5:St) (H5:Hp) (ι5:List Y4) (M5:Store) (tV:bK) (I5:Inv P.Y [] σ5 H5 s') (mL:P.tn k s'.heap) (pU:∀b∈P.fp,H5 b=Ym) (hn:P.aX.items.length-k=n) (hk:k<=P.aX.items.length)
   (x5:Ext P.Y.K P.H2 P.ι2 H5 ι5) (S5:aH P.Y.K H5 ι5 M5) (E5:cO P.Y.K H5 ι5 tV σ5) (hι:ι5[P.nM]?=Ya P.acc) (h5:Zv P.Y.K H5 ι5 P.Q (jf P.aX P.g P.ts P.f P.nM (P.aX.items.drop k) tV M5))
def LK(P:Cb)(n:Nat)(s':Yl):Prop:=∃m,m<n/\Ue P m s'
section
noncomputable local instance (priority:=100000) AeQ (p:Prop):Decidable p:=Abn p
noncomputable def LQ(P:Cb)(k:Nat)(env:bK)(e:D)(M2:Store):R3 D:=match M2[P.nM]? with
 |some (.lst x)=>if x.length<SZ then jf P.aX P.g P.ts P.f P.nM (P.aX.items.drop (k+1)) env (M2.set P.nM (.lst (x++[e])))else .bad|_=>.bad
noncomputable def Ug(P:Cb)(k:Nat)(env:bK)(b:Bool)(M1:Store):R3 D:=if b then(P.f env M1).bind (LQ P k env)else jf P.aX P.g P.ts P.f P.nM (P.aX.items.drop (k+1)) env M1
end
def cbF(P:Cb)(n:Nat)(xv:Yh)(s:Yl):Prop:=ao (aB P.Y.prog P.Y.w) P.Y.A (call (.builtin "list.append") [.ref P.acc,xv]) (λ_ s'=>LK P n s') P.Y.xe s
def cbO(P:Cb)(elt:Expr)(n:Nat)(ok:Bool)(s:Yl):Prop:=if ok=true then ao (aB P.Y.prog P.Y.w) P.Y.A (aM elt P.Y.env) (cbF P n) P.Y.xe s else LK P n s
def cbS(P:Cb)(elt:Expr)(ifs:List Expr)(n:Nat)(s:Yl):Prop:=ao (aB P.Y.prog P.Y.w) P.Y.A (forIn ifs true λc r=>if r=true then do let ok ←isTrue c P.Y.env (aM c P.Y.env);pure (ForInStep.yield ok)else pure (ForInStep.yield r)) (cbO P elt n) P.Y.xe s
def cbA(P:Cb)(tg elt:Expr)(ifs:List Expr)(n:Nat)(u:Yh)(s:Yl):Prop:=ao (aB P.Y.prog P.Y.w) P.Y.A (jK tg P.Y.env u) (λ_=>cbS P elt ifs n) P.Y.xe s
def cbN(P:Cb)(tg elt:Expr)(ifs:List Expr)(it:Y4)(n:Nat)(F:Yl->Prop)(r:Option Yh)(s:Yl):Prop:=match r with
 |none=>F s|some v=>ao (aB P.Y.prog P.Y.w) P.Y.A (Fj tg (.ref it) v) (λ_=>cbA P tg elt ifs n v) P.Y.xe s
variable {P:Cb} {tg elt:Expr} {ifs:List Expr} {J:It} {it:Y4} {k:Nat} {h7:aR} {σ:St} {H H':Hp} {s:Yl} {ι:List Y4} {M M1:Store} {env:bK}
theorem Zpu(T:Turn P.Y.prog P.Y.w P.Y.K tg J P.fp it P.tn)(mq:P.tn (k+1) h7)(hlt:k<P.aX.items.length)(I':Inv P.Y ([]++uz P.fp h7) σ H s)(x:Ext P.Y.K P.H2 P.ι2 H ι)(S:aH P.Y.K H ι M)(E:cO P.Y.K H ι env σ)(hι:ι[P.nM]?=Ya P.acc)(h:Zv P.Y.K H ι P.Q (jf P.aX P.g P.ts P.f P.nM (P.aX.items.drop (k+1)) env M)):LK P (P.aX.items.length-k) s:=⟨P.aX.items.length-(k+1),lD 2 0x30113c2012a1c0c21 T1 (Y9 (lB 1 6991908881 T1 hlt)) (gO _ _),⟨k+1,σ,H,ι,M,env,I'.Ep,T.keep _ _ _ mq λb hb o e=>(I'.pin (b,o) (iQ _ (iQ _ (Bp hb e)))).1,λb hb=>(T.obj _ _ mq b hb).elim λo e=>(I'.pin (b,o) (iQ _ (iQ _ (Bp hb e.1)))).2.1,rfl,hlt,x,S,E,hι,h⟩⟩
theorem ZxF:Ug P k env true M=(P.f env M).bind (LQ P k env):=if_pos rfl
theorem Zyl:Ug P k env false M=jf P.aX P.g P.ts P.f P.nM (P.aX.items.drop (k+1)) env M:=if_neg (by decide)
theorem Zv.iff{H:Hp}{ι:List Y4}{Q:VK}{c:Prop}{dc:Decidable c}(h:Zv K H ι Q (if c then r else .bad)):c/\Zv K H ι Q r:=by
 by_cases hc:c
 .rw[if_pos hc]at h;exact⟨hc,h⟩
 .rw[if_neg hc]at h;exact h.elim
theorem ZvM{xv:Yh}(T:Turn P.Y.prog P.Y.w P.Y.K tg J P.fp it P.tn)(mq:P.tn (k+1) h7)(hlt:k<P.aX.items.length)(I':Inv P.Y ([]++uz P.fp h7) σ H s)(r:RelV v xv)(x:Ext P.Y.K P.H2 P.ι2 H ι)(S:aH P.Y.K H ι M)(E:cO P.Y.K H ι env σ)(rd:Rep P.Y.K H ι d v)(hι:ι[P.nM]?=Ya P.acc)(hm:M[P.nM]?=Ya (.lst xs))(hz:xs.length<SZ)(h:Zv P.Y.K H ι P.Q (jf P.aX P.g P.ts P.f P.nM (P.aX.items.drop (k+1)) env (M.set P.nM (.lst (xs++[d]))))):
  cbF P (P.aX.items.length-k) xv s:=by
 obtain⟨vs,ev,rvs⟩:=S.obj _ _ _ hm hι;obtain⟨x11,Uh⟩:=S.vD (.inr (.inl ⟨_,ev⟩)) hι (rvs.append (au.cons rd au.nil));refine aJ (Q':=λ_ s'=>LK P (P.aX.items.length-k) s') (S_ _ s σ H (.ref P.acc) [v] (.ref P.acc) [xv] (λ_ H'=>H'=upd H P.acc (.lst (vs++[v]))) I' rfl (.cons r .nil) ⟨_,vs,v,rfl,rfl,ev,by rw[rvs.length];exact Y8 hz kj,rfl⟩) λ_ LR ak=>?_;obtain⟨_,H11,L_,_,eH⟩:=ak;rw[eH]at L_;exact Zpu T mq hlt L_ (x.trans x11) Uh (E.mono x11) (x11.pre _ _ hι) (h.up x11)
theorem Zwl(T:Turn P.Y.prog P.Y.w P.Y.K tg J P.fp it P.tn)(helt:C3 P.Y elt P.f)(mq:P.tn (k+1) h7)(hlt:k<P.aX.items.length)(I':Inv P.Y ([]++uz P.fp h7) σ H s)(x:Ext P.Y.K P.H2 P.ι2 H ι)(S:aH P.Y.K H ι M)(E:cO P.Y.K H ι env σ)(hι:ι[P.nM]?=Ya P.acc)(h:Zv P.Y.K H ι P.Q ((P.f env M).bind (LQ P k env))):
  ao (aB P.Y.prog P.Y.w) P.Y.A (aM elt P.Y.env) (cbF P (P.aX.items.length-k)) P.Y.xe s:=by
 obtain⟨d,Hi,e10,h10⟩:=Zv.bind h;refine aJ (Q':=cbF P (P.aX.items.length-k)) (helt _ s σ H (λv H'=>∃rn,Ext P.Y.K H ι H' rn/\aH P.Y.K H' rn Hi/\Rep P.Y.K H' rn d v) I' ⟨ι,M,env,S,E,by rw[e10];exactλv H' ι' x' S' r'=>⟨ι',x',S',r'⟩⟩) λxv Ma ak=>?_;obtain⟨v,Ui,Uj,r10,rn,x10,Mf,rd⟩:=ak;unfold LQ at h10;cases hm:Hi[P.nM]? with
 |none=>rw[hm]at h10;exact h10.elim|some o=>
  rw[hm]at h10;cases o with
  |dct _=>exact h10.elim|cV _=>exact h10.elim|ins _ _=>exact h10.elim|lst xs=>exact ZvM T mq hlt Uj r10 (x.trans x10) Mf (E.mono x10) rd (x10.pre _ _ hι) hm (Zv.iff h10).1 ((Zv.iff h10).2.up x10)
theorem Zvz(T:Turn P.Y.prog P.Y.w P.Y.K tg J P.fp it P.tn)(hts:qj P.Y ifs P.ts)(helt:C3 P.Y elt P.f)(mq:P.tn (k+1) h7)(hlt:k<P.aX.items.length)(I':Inv P.Y ([]++uz P.fp h7) σ H s)(x:Ext P.Y.K P.H2 P.ι2 H ι)(S:aH P.Y.K H ι M)(E:cO P.Y.K H ι env σ)(hι:ι[P.nM]?=Ya P.acc)(h:Zv P.Y.K H ι P.Q ((uI P.ts env M).bind (Ug P k env))):
  cbS P elt ifs (P.aX.items.length-k) s:=by
 obtain⟨b,M9,e9,h9⟩:=Zv.bind h;refine aJ (Q':=cbO P elt (P.aX.items.length-k)) (hts _ s σ H (λb' H'=>b'=b/\∃ι9,Ext P.Y.K H ι H' ι9/\aH P.Y.K H' ι9 M9) I' ⟨ι,M,env,S,E,by rw[e9];exactλH' ι' x' S'=>⟨rfl,ι',x',S'⟩⟩) λb' s9 ak=>?_;obtain⟨H9,I9,eb,ι9,x9,S9⟩:=ak;rw[←eb]at h9;cases b' with
 |false=>exact Zpu T mq hlt I9 (x.trans x9) S9 (E.mono x9) (x9.pre _ _ hι) (Zv.up x9 (Zyl▸h9))|true=>exact Zwl T helt mq hlt I9 (x.trans x9) S9 (E.mono x9) (x9.pre _ _ hι) (Zv.up x9 (ZxF▸h9))
theorem ZxY(T:Turn P.Y.prog P.Y.w P.Y.K tg J P.fp it P.tn)(hc:P.Y.calm=true)(hfp:∀{H':Hp},(∀b∈P.fp,H' b=Ym)->∀b∈P.fp,iU P.Y [] H' b)(hg:CG P.Y tg P.g)(hts:qj P.Y ifs P.ts)(helt:C3 P.Y elt P.f)(hlt:k<P.aX.items.length)(I5:Inv P.Y [] σ H s)(mL:P.tn k s.heap)(pU:∀b∈P.fp,H b=Ym)(x:Ext P.Y.K P.H2 P.ι2 H ι)(S:aH P.Y.K H ι M)(E:cO P.Y.K H ι env σ)(hι:ι[P.nM]?=Ya P.acc)(ok:rm P.Y.K P.H2 P.ι2 P.aX J)(h:Zv P.Y.K H ι P.Q (jf P.aX P.g P.ts P.f P.nM (P.aX.items[k]::P.aX.items.drop (k+1)) env M))(F:Yl->Prop):
  ao (aB P.Y.prog P.Y.w) P.Y.A (ul (.ref it)) (cbN P tg elt ifs it (P.aX.items.length-k) F) P.Y.xe s:=by
 obtain⟨lk,h⟩:=Zv.iff h;obtain⟨go,yl⟩:=(ok k H ι M x S lk).1 _ (Y3 hlt);cases eg:P.g P.aX.items[k] env with
 |none=>rw[eg]at h;exact h.elim|some tW=>rw[eg]at h;refine aJ (T.item P.Y rfl rfl rfl hc k [] s σ H P.Y.xe I5 (hfp pU) mL go) λr s6 ak=>?_;obtain⟨u,hr,h6⟩:=ak;rw[hr];refine aJ (Q':=λ_=>cbA P tg elt ifs (P.aX.items.length-k) u) h6 λ_ s7 ak=>?_;obtain⟨y,H7,I7,r7,y7,mq,Mg⟩:=ak;obtain⟨e7,rx⟩:=yl y H7 y7;rw[e7]at I7 Mg;refine aJ (Q':=λ_=>cbS P elt ifs (P.aX.items.length-k)) (hg _ s7 σ H y u (λσ' H'=>H'=H/\cO P.Y.K H ι tW σ') (I7.pinned (hfp Mg) (T.obj _ _ mq)) r7 ⟨ι,M,env,_,tW,S,E,rx,eg,λσ' E'=>⟨rfl,E'⟩⟩) λ_ s8 ak=>?_;obtain⟨σ8,H8,I8,e8,E8⟩:=ak;rw[e8]at I8;exact Zvz T hts helt mq hlt I8 x S E8 hι h
theorem Zui(T:Turn P.Y.prog P.Y.w P.Y.K tg J P.fp it P.tn)(hc:P.Y.calm=true)(hfp:∀{H':Hp},(∀b∈P.fp,H' b=Ym)->∀b∈P.fp,iU P.Y [] H' b)(I5:Inv P.Y [] σ H s)(mL:P.tn P.aX.items.length s.heap)(pU:∀b∈P.fp,H b=Ym)(x:Ext P.Y.K P.H2 P.ι2 H ι)(S:aH P.Y.K H ι M)(hι:ι[P.nM]?=Ya P.acc)(ok:rm P.Y.K P.H2 P.ι2 P.aX J)(h:Zv P.Y.K H ι P.Q (jf P.aX P.g P.ts P.f P.nM [] env M)){F:Yl->Prop}(hF:∀s6,Inv P.Y [] σ H s6->P.Q (.ref P.acc) H->F s6):
  ao (aB P.Y.prog P.Y.w) P.Y.A (ul (.ref it)) (cbN P tg elt ifs it n F) P.Y.xe s:=by
 obtain⟨lk,h⟩:=Zv.iff h;refine aJ (T.done P.Y rfl rfl rfl hc _ [] s σ H P.Y.xe I5 (hfp pU) mL ((ok _ H ι M x S lk).2 rfl)) λr s6 ak=>?_;rw[ak.1];exact hF s6 ak.2 (h _ H ι Ext.refl S (Rep.ref hι))
end
variable{fp:List Y4}{s:Yl}{pins:List (Y4×aP)}{it:Y4}{E:Yh->Yl->Prop}
section
variable {X:Cx} {elt tg iter:Expr} {ifs:List Expr} {scope:Scope} {pos:aZ} {i:I3} {own:Nat} {g:G3} {ts:List E3} {f:E3} {N':List aj}
structure wQ(X:Cx)(scope:Scope)(N':List aj)(own:Nat):Prop where
 kind:scope.kind= .function
 cell:∀y∈scope.names,y.2≠ .cell
 free:∀y∈scope.names,y.2= .free->X.env.kindOf y.1=Ya .cell\/X.env.kindOf y.1=Ya .free
 names:∀y∈scope.names,y.2= .local->scope.names.lookup y.1=Ya .local
 len:N'.length=X.N.length+own
 vis:Uc X.N N' scope=true
theorem ZtS{P:Cb}{J:It}{F:Yl->Prop}(T:Turn P.Y.prog P.Y.w P.Y.K tg J P.fp it P.tn)(hc:P.Y.calm=true)(hfp:∀{H':Hp},(∀b∈P.fp,H' b=Ym)->∀b∈P.fp,iU P.Y [] H' b)(hb:CG P.Y tg P.g/\qj P.Y ifs P.ts/\C3 P.Y elt P.f)(ok:rm P.Y.K P.H2 P.ι2 P.aX J)(z:Ue P n s)(fin:∀σ H s',Inv P.Y [] σ H s'->P.Q (.ref P.acc) H->F s'):ao (aB P.Y.prog P.Y.w) P.Y.A (ul (.ref it)) (cbN P tg elt ifs it n F) P.Y.xe s:=by
 obtain⟨k,σ5,H5,ι5,M5,tV,I5,mL,pU,hn,hk,x5,S5,E5,hι,h5⟩:=z;by_cases hlt:k<P.aX.items.length
 .rw[Ad hlt]at h5;exact hn▸ZxY T hc hfp hb.1 hb.2.1 hb.2.2 hlt I5 mL pU x5 S5 E5 hι ok h5 _
 .rw[Y1 hk (j8 hlt)]at mL h5;rw[Qk]at h5;exact Zui T hc hfp I5 mL pU x5 S5 hι ok h5 λs6 I6 q=>fin σ5 H5 s6 I6 q
theorem Znf{s3:Yl}{H2 H3:Hp}{ι2 ι3:List Y4}{M3:Store}{nM:Nat}{D:Y4}{tn:Nat->aR->Prop}{J:It}{aX:gm}{Q:VK}(O:wQ X scope N' own)(hc:X.calm=true)(hb:∀C cl s H ex,CG (fO X scope N' C cl s H ex) tg g/\qj (fO X scope N' C cl s H ex) ifs ts/\C3 (fO X scope N' C cl s H ex) elt f)(T:Turn X.prog X.w X.K tg J fp it tn)(st3:tn 0 s3.heap)(vG:∀b∈fp,b<s3.heap.objs.size)(I3:Inv X pins σ H3 s3)(nH:∀b∈fp,iU X pins H3 b)(x3:Ext X.K H2 ι2 H3 ι3)(S3:aH X.K H3 ι3 M3)(E2:cO X.K H3 ι3 env σ)(ok:rm X.K H2 ι2 aX J)(h:Zv X.K H3 ι3 Q (jf aX g ts f nM aX.items (env++Yr own Ym) M3))(hι:ι3[nM]?=Ya D)(RR:Yh->Y4->um->Yl->Prop)(fin:∀(acc C:Y4) (s':Yl) (m:aj->Option Yh) (H':Hp),s'.heap.Ns C m->iU X pins H' C->Inv X pins σ H' s'->Q (.ref acc) H'->RR (.ref acc) C (.ok .next) s'):
  ao (aB X.prog X.w) X.A (Qz scope X.env.globals (gU X.env.cells scope.names []) [] X.env.qual Ym .none (Ya X.env)) (λcenv s₄=>nR (aB X.prog X.w) X.A (.compStart (.ListComp elt [⟨tg,iter,ifs,0⟩] scope pos) 0 (.ref it) (.ref D) {cenv with scope:=vW scope X.env}) (RR (.ref D) cenv.locals) s₄) E s3:=by
 refine Yi9 O.cell (by intro y hy;cases hy) (λh4 hns hsb=>?_) O.kind;have Es:∀b o,s3.heap.get? b=Ya o->h4.get? b=Ya o:=λb o e=>hsb.extBut b o (d8 (Y7 e)) (Yn _ e);have I4:=Zmt (own:=own) (N':=N') (tk:=s3.toks+([]:List (aj×Yh)).length) I3 O.kind O.cell O.free O.len O.vis nH vG hns Es;have Hj:tn 0 h4:=T.keep _ _ _ st3 λb hb o e=>Es b o e;have L:=Zh6 (prog:=X.prog) (w:=X.w) (A:=X.A) (R:=RR (.ref D) s3.heap.objs.size) (scope:=scope) (pos:=pos) (iter:=iter) (elt:=elt) (target:=tg) (ifs:=ifs) (env:=Ft scope (gU X.env.cells scope.names []) s3.heap.objs.size X.env) (Ue ⟨fO X scope N' s3.heap.objs.size (gU X.env.cells scope.names []) s3 H3 fp,fp,tn,aX,H2,ι2,Q,g,ts,f,nM,D⟩) (λn s5 z=>ZtS (P:=⟨fO X scope N' s3.heap.objs.size (gU X.env.cells scope.names []) s3 H3 fp,fp,tn,aX,H2,ι2,Q,g,ts,f,nM,D⟩) T hc
  (λhn b hb=>⟨hn b hb,d8 (vG b hb),λhz=>I4.ok.zY b hb hz,.inl hb,λx c hx=>(I4.ok.Ku b hb).2 x c hx,λp hp=>absurd (show p∈([]:List (Y4×aP))from hp) (by simp)⟩)
  (hb _ _ _ _ _) ok z
  λσ' H' s6 I6 q=>I6.loc.elim λm6 Uk=>fin _ _ s6 m6 H' Uk.1 (I3.vB (Yt _) I6.free) (I3.call' (ch:=fp) I6.os I6.base I6.hok I6.bare λb hb=>⟨(nH b hb).2.2.2.1,(nH b hb).2.1,(nH b hb).2.2.2.2.1,(nH b hb).2.2.2.2.2⟩) q) _
  ⟨0,_,_,_,_,_,I4,Hj,λb hb=>(nH b hb).1,rfl,fC _,x3,S3,E2.grow own,hι,h⟩
 exact Yh1 L (T.self _ 0 _ _ _ Hj L)
theorem ZjI{s2:Yl}{H2:Hp}{ι2:List Y4}{M2:Store}{tn:Nat->aR->Prop}{J:It}{aX:gm}{Q:VK}(O:wQ X scope N' own)(hc:X.calm=true)(hb:∀C cl s H ex,CG (fO X scope N' C cl s H ex) tg g/\qj (fO X scope N' C cl s H ex) ifs ts/\C3 (fO X scope N' C cl s H ex) elt f)(I2:Inv X pins σ H2 s2)(T:Turn X.prog X.w X.K tg J fp it tn)(st0:tn 0 s2.heap)(hfp:∀b∈fp,iU X pins H2 b)(S2:aH X.K H2 ι2 M2)(E2:cO X.K H2 ι2 env σ)(ok:rm X.K H2 ι2 aX J)(h:Zv X.K H2 ι2 Q (jf aX g ts f M2.length aX.items (env++Yr own Ym) (M2++[.lst []])))(RR:Yh->Y4->um->Yl->Prop)(fin:∀(acc C:Y4) (s':Yl) (m:aj->Option Yh) (H':Hp),s'.heap.Ns C m->iU X pins H' C->Inv X pins σ H' s'->Q (.ref acc) H'->RR (.ref acc) C (.ok .next) s'):
  ao (aB X.prog X.w) X.A (JP []) (λacc s₃=>ao (aB X.prog X.w) X.A (Qz scope X.env.globals (gU X.env.cells scope.names []) [] X.env.qual Ym .none (Ya X.env)) (λcenv s₄=>nR (aB X.prog X.w) X.A (.compStart (.ListComp elt [⟨tg,iter,ifs,0⟩] scope pos) 0 (.ref it) acc {cenv with scope:=vW scope X.env}) (RR acc cenv.locals) s₄) E s₃) E s2:=by
 refine ug ?_;have hD:H2 s2.heap.objs.size=Ym:=I2.hok.fresh (Yt _);obtain⟨x3,S3,r3⟩:=S2.lst hD (au.nil (K:=X.K) (H:=H2) (ι:=ι2));have I3:Inv X pins σ (upd H2 s2.heap.objs.size (.lst [])) {s2 with heap:=s2.heap.push {cls:=.type "list",data:=.seq ([]:List Yh).toArray}}:=I2.laid (t':=s2.toks) (λb u e=>Yn _ e) (Yt _) ⟨fC _,[],0,.nil,Y5 _ rfl⟩;have xO:∀b o,s2.heap.get? b=Ya o->(s2.heap.push {cls:=.type "list",data:=.seq ([]:List Yh).toArray}).get? b=Ya o:=λb o e=>Yn _ e;generalize hs3:({s2 with heap:=s2.heap.push {cls:=.type "list",data:=.seq ([]:List Yh).toArray}}:Yl)=s3 at I3 ⊢;have xO:∀b o,s2.heap.get? b=Ya o->s3.heap.get? b=Ya o:=by rw[←hs3];exact xO
 have lt2:∀b∈fp,b<s2.heap.objs.size:=λb hb=>(T.obj _ _ st0 b hb).elim λo e=>Y7 e.1;have vG:∀b∈fp,b<s3.heap.objs.size:=λb hb=>(T.obj _ _ st0 b hb).elim λo e=>Y7 (xO b o e.1);exact Znf O hc hb (T:=T) (st3:=T.keep _ _ _ st0 λb hb o e=>xO b o e) (vG:=vG) (I3:=I3) (nH:=λb hb=>⟨(gB (d8 (lt2 b hb))).trans (hfp b hb).1,(hfp b hb).2⟩) (x3:=x3) (S3:=S3) (E2:=E2.mono x3) (ok:=ok) (h:=h.up x3) (hι:=by rw[←S2.len];simp) RR fin
theorem pA(O:wQ X scope N' own)(yW:X.xe=λ_ _=>False)(hc:X.calm=true)(hi:CI X tg iter i)(hb:∀C cl s H ex,CG (fO X scope N' C cl s H ex) tg g/\qj (fO X scope N' C cl s H ex) ifs ts/\C3 (fO X scope N' C cl s H ex) elt f)(hs:∀x,Al iter X.env x=pure x:=by intro _;rfl):C3 X (.ListComp elt [⟨tg,iter,ifs,0⟩] scope pos) (fW i own g ts f):=by intro pins s σ H Q I h;obtain⟨ι,M,env,S,E,h⟩:=h;obtain⟨aX,M1,e1,h⟩:=Zv.bind h;have hc0:∀y∈scope.names,y.2= .free->∃c,X.env.cells.lookup y.1=Ya c:=λy hy e=>I.ok.has y.1 (O.free y hy e);rw[eval_ListComp];refine Jv (use:=Ym) rfl hs (LC hc0) O.kind O.names ?_;refine aJ (hi pins s σ H (λJ H'=>∃ι',Ext X.K H ι H' ι'/\aH X.K H' ι' M1/\rm X.K H' ι' aX J) I ⟨ι,M,env,S,E,by rw[e1];exactλJ H' ι' x S' o=>⟨ι',x,S',o⟩⟩) λv s1 h1=>aJ h1 λitv s2 h2=>?_;obtain⟨it,fp,tn,J,H2,rfl,I2,T,st2,f2,ι2,x2,S2,ok⟩:=h2;refine ZjI (own:=own) (g:=g) (ts:=ts) (f:=f) O hc hb I2 T st2 f2 S2 (E.mono x2) ok (h.up x2) (λacc C=>JG (aB X.prog X.w) X.A X.xe Ym (EP X pins σ Q) acc C) ?_;intro acc C s' m H' hn hf I' hq;obtain⟨f0,f1,Ul,f3,f4,f5⟩:=hf;exact⟨m,hn,λh' sb=>⟨.ref acc,H',I'.turned (t':=s'.toks) (λb o hb e=>(sb.2 b hb).trans e) f0 f1 f3 f4 f5,rfl,hq⟩⟩
theorem ZqM(j:Nat){pos' spos:aZ}(O:wQ X scope N' own)(yW:X.xe=λ_ _=>False)(hc:X.calm=true)(hN:X.N.Nodup)(hi:CI X tg iter i)(hb:∀C cl s H ex,CG (fO X scope N' C cl s H ex) tg g/\qj (fO X scope N' C cl s H ex) ifs ts/\C3 (fO X scope N' C cl s H ex) elt f)(hj:autoParam (X.N[j]?=Ya x) qA)(hx:Loc X.env.scope x:=by first|exact Or.inl rfl|exact Or.inr rfl)(hf:X.fn x=true\/X.env.scope.names.lookup x=Ya .local:=by first|exact .inl rfl|exact .inr rfl)(hsw:autoParam (vR (.ListComp elt [⟨tg,iter,ifs,0⟩] scope pos) (Ya (.Name x pos')) spos.line X.env=pure true) qA)(hs:∀x,Al iter X.env x=pure x:=by intro _;rfl):CS X (.Assign [.Name x pos'] (.ListComp elt [⟨tg,iter,ifs,0⟩] scope pos) spos) (aA j (fW i own g ts f)):=by
 intro pins s σ H D I h;obtain⟨ι,M,env,S,E,h⟩:=h;have h0:Zv X.K H ι (λv H'=>D.nx (σ.set j (Ya v)) H') (fW i own g ts f env M):=by
  unfold aA at h;cases q:fW i own g ts f env M with
  |ok d M1=>rw[q]at h;exactλv H1 ι1 x1 S1 r1=>h _ H1 ι1 x1 S1 ((E.mono x1).set j r1)|exc _ _=>rw[q]at h;exact h.elim|bad=>rw[q]at h;exact h.elim
 obtain⟨aX,M1,e1,h1⟩:=Zv.bind h0;have hc0:∀y∈scope.names,y.2= .free->∃c,X.env.cells.lookup y.1=Ya c:=λy hy e=>I.ok.has y.1 (O.free y hy e);rw[Yim _ _ _ _ hsw];refine Yg (vP (Yg ?_));show ao _ X.A (do let _ ←comprehension (.ListComp elt [⟨tg,iter,ifs,0⟩] scope pos) scope X.env _ (JP []) false (aM iter X.env) (Ya (jK (.Name x pos') X.env))) _ _ s;refine Yg (j7 (Jv (use:=Ya (jK (.Name x pos') X.env)) (Q:=λ_ s'=>SP X pins D .next s') rfl hs (LC hc0) O.kind O.names ?_) (λ_ s' hq=>Yv (Yv hq)) λ_ _ e=>e);refine aJ (hi pins s σ H (λJ H'=>∃ι',Ext X.K H ι H' ι'/\aH X.K H' ι' M1/\rm X.K H' ι' aX J) I ⟨ι,M,env,S,E,by rw[e1];exactλJ H' ι' x S' o=>⟨ι',x,S',o⟩⟩) λv s1 h1'=>aJ h1' λitv s2 h2=>?_;obtain⟨it,fp,tn,J,H2,rfl,I2,T,st2,f2,ι2,x2,S2,ok⟩:=h2;refine ZjI (own:=own) (g:=g) (ts:=ts) (f:=f) O hc hb I2 T st2 f2 S2 (E.mono x2) ok (h1.up x2) (λacc C=>JG (aB X.prog X.w) X.A X.xe (Ya (jK (.Name x pos') X.env)) (λ_ s'=>SP X pins D .next s') acc C) ?_;intro acc C s' m H' hn Um I' hq;obtain⟨f0,f1,Ul,f3,f4,f5⟩:=Um;show ao _ X.A (jK (.Name x pos') X.env (.ref acc)) _ _ s';refine Qu (R6 I' hN hj hx (show RelV (.ref acc) (.ref acc)from rfl) (λs'' Uo ⟨a,sb,ha⟩=>?_) hf);have Uq:C≠a:=by
  rcases ha with rfl|ha
  .exact f1
  .exact dw (f4 x a ha)
 exact⟨m,hn.sameBut sb Uq,λh' Ur=>⟨_,H',Uo.turned (t':=s''.toks) (λb o hb e=>(Ur.2 b hb).trans e) f0 f1 f3 f4 f5,hq⟩⟩
end
theorem eE{k:Nat}(r:d9 k A):A.units+80<jL:=by have:=r.un;exact lC 1 0x2502b0c12c82b110d0cc11 T1 this
noncomputable def Its(x:aj):It:=⟨λi _=>i<x.cps.size,λi H y H'=>H'=H/\∃c,x.cps[i]?=Ya c/\y= .str ⟨#[c]⟩,λi _=>i=x.cps.size⟩
variable{w:bJ}
theorem ZqQ{P:bR}{tg:Expr}{t:gw}{ty:String}(W:∀A':bW,A'.handled=Ym->Walks P w A' it [it] [it] x.cps.size (SignAt x) (λi h=>h.IsStrIter it ty x t i))(hs:∀(A:bW) (i:Nat) (s:Yl) (Q:Yh->Yl->Prop) (E:Yh->Yl->Prop),s.heap.IsStrIter it ty x t i->Q (.ref it) s->ao (aB P w) A (Av (.ref it)) Q E s)(hty:["enumerate","zip","dict_itemiterator","dict_reverseitemiterator","odict_iterator","itertools.zip_longest","itertools.pairwise"].contains ty=false):Turn P w K tg (Its x) [it] it (λi h=>h.IsStrIter it ty x t i)where
 mem:=by simp
 obj:=λi h st b hb=>by
  have e:b=it:=by simpa using hb
  subst e;obtain⟨o,e,c,d⟩:=st;exact⟨o,e,λv z=>by rw[d]at z;cases z⟩
 keep:=λi h h' st k=>let⟨o,e,r⟩:=st;⟨o,k it (by simp) o e,r⟩
 item:=by intro X hP hw hK hc i pins s σ H E I hf st hg;subst hP hw hK;obtain⟨f0,f1,f2,f3,f4,f5⟩:=hf it (by simp);refine(W X.A (I.ok.hd hc)).item i s _ _ hg st λv h' tk hv st' kk=>?_;obtain⟨c,u,hx,rfl⟩:=hv;have I1:Inv X pins σ H {s with heap:=h',toks:=tk}:=I.turned (λb o hb e=>kk b o (by simpa using hb) e) f0 f1 f3 f4 f5;obtain⟨o,e,cc,d⟩:=id st';exact⟨_,rfl,Kz (s:={s with heap:=h',toks:=tk}) e cc d hty ⟨.str ⟨#[c]⟩,H,I1,⟨u,rfl⟩,⟨rfl,c,hx,rfl⟩,st',λb hb=>(hf b hb).1⟩⟩
 done:=by intro X hP hw hK hc i pins s σ H E I hf st hg;subst hP hw hK;obtain⟨f0,f1,f2,f3,f4,f5⟩:=hf it (by simp);have e:i=x.cps.size:=hg;subst e;exact(W X.A (I.ok.hd hc)).done s _ _ st λh' tk kk=>⟨rfl,I.turned (λb o hb e=>kk b o (by simpa using hb) e) f0 f1 f3 f4 f5⟩
 self:=hs
section
variable {X:Cx} {tg e o:Expr} {es:List Expr} {pos p apos cpos:aZ} {f:E3} {gl:eQ}
theorem Zwu(h:C3 X e f):PI X tg e (λσ H R=>nj X.K f σ H λx H1=>∃z:aj,x= .str z/\z.length<=SZ/\∀J,(∀ι,rm X.K H1 ι ⟨z.cps.toList.map λc=>.str [c],Ym⟩ J)->R J H1):=by
 intro pins s σ H R I hw;refine aJ (h pins s σ H _ I hw) λv s1 ak=>?_;obtain⟨x,H1,I1,r1,z,ex,hz,q⟩:=ak;subst ex;obtain⟨t,rfl⟩:=r1;have key:∀(ty:String) (o:aP),(∀A':bW,A'.handled=Ym->Walks X.prog X.w A' s1.heap.objs.size [s1.heap.objs.size] [s1.heap.objs.size] z.cps.size (SignAt z) (λi h=>h.IsStrIter s1.heap.objs.size ty z t i)) ->
   (∀(A:bW) (i:Nat) (s:Yl) (Q:Yh->Yl->Prop) (E:Yh->Yl->Prop),s.heap.IsStrIter s1.heap.objs.size ty z t i->Q (.ref s1.heap.objs.size) s->ao (aB X.prog X.w) A (Av (.ref s1.heap.objs.size)) Q E s) ->
   ["enumerate","zip","dict_itemiterator","dict_reverseitemiterator","odict_iterator","itertools.zip_longest","itertools.pairwise"].contains ty=false->(s1.heap.push o).IsStrIter s1.heap.objs.size ty z t 0 ->
   PIE X pins σ tg R (.ref s1.heap.objs.size) {s1 with heap:=s1.heap.push o}:=by
  intro ty o W hs hty st;refine⟨s1.heap.objs.size,[s1.heap.objs.size],_,_,H1,rfl,I1.kept (t':=s1.toks) λb o e=>Yn _ e,ZqQ W hs hty,st,λb hb=>?_,q _ λι=>?_⟩
  .have e:b=s1.heap.objs.size:=by simpa using hb
   subst e;exact I1.vB (Yt _) (I1.hok.fresh (Yt _))
  .intro i H2 ι2 M2 x S _;refine⟨λd hd=>?_,λhl=>?_⟩
   .rw[lO]at hd;cases hq:z.cps.toList[i]? with
    |none=>rw[hq]at hd;cases hd|some c=>
     rw[hq]at hd;have hd':D.str [c]=d:=by simpa using hd
     subst hd';have hi:i<z.cps.size:=by have:=(Ye.mp hq).1;simpa using this
     refine⟨hi,λy H3 hy=>⟨hy.1,?_⟩⟩;obtain⟨_,c',hc',rfl⟩:=hy;have:c'=c:=by rw[←Ry,hq]at hc';exact(Y2 hc').symm
     subst this;exact Rep.str
   .show i=z.cps.size;rw[hl];simp
 cases ha:z.cps.all (· <128)
 .exact wpAny_pyIter_wide ha (key "str_iterator" _ (λA' hA=>Walks.strWide hA _ z t) (λ_ _ _ _ _ st h=>wpAny_pyIter_striter_wide st h) (by decide) ⟨_,Y5 _ rfl,rfl,rfl⟩)
 .exact wpAny_pyIter_ascii ha (key "str_ascii_iterator" _ (λA' hA=>Walks.strAscii hA _ z t) (λ_ _ _ _ _ st h=>wpAny_pyIter_striter_ascii st h) (by decide) ⟨_,Y5 _ rfl,rfl,rfl⟩)
theorem jw(h:C3 X e f):CI X tg e (bZ f):=ZwB h (Zwu h)
theorem Cm{T:String}{ty:D->Store->Bool}{m:D->List D->Store->R3 D}(hty:∀H ι M a x,aH K H ι M->Rep K H ι a x->ty a M=true->yE K T x H)(σ:St)(H:Hp)(Q:VK)(h:nj K (aG ty m f gl) σ H Q):tBM K T (rM K m) (nj K f) (T4 K gl) σ H Q:=by
 obtain⟨ι,M,env,S,E,h⟩:=h;obtain⟨a,M1,e1,h⟩:=Zv.bind h;refine⟨ι,M,env,S,E,?_⟩;rw[e1];intro v H1 ι1 x1 S1 r1;by_cases ht:ty a M1=true
 .rw[if_pos ht]at h;obtain⟨ds,M2,e2,h⟩:=Zv.bind h;refine⟨hty _ _ _ _ _ S1 r1 ht,ι1,M1,env,S1,E.mono x1,?_⟩;rw[e2];intro vs H2 ι2 x2 S2 r2;exact⟨ι2,M2,a,ds,S2,r1.mono x2,r2,(h.up x1).up x2⟩
 .rw[if_neg ht]at h;exact h.elim
theorem Mh(H:Hp)(ι:List Y4)(M:Store)(a:D)(x:V)(_:aH K H ι M)(r:Rep K H ι a x)(h:fM a M=true):yE K "str" x H:=by
 cases a with
 |str z=>rw[r.str_inv];rfl|_=>exact ft h
theorem Us(H:Hp)(ι:List Y4)(M:Store)(a:D)(x:V)(S:aH K H ι M)(r:Rep K H ι a x)(h:bj a M=true):yE K "list" x H:=by
 cases a with
 | ref n=>
  rw[yN]at h;cases hn:M[n]? with
  |none=>rw[hn]at h;exact ft h|some o=>
   cases o with
   |dct _=>rw[hn]at h;exact ft h|cV _=>rw[hn]at h;exact ft h|ins _ _=>rw[hn]at h;exact ft h|lst xs=>obtain⟨p,hp,rfl⟩:=r.dX;obtain⟨vs,e,_⟩:=S.obj n _ p hn hp;exact .inl ⟨rfl,vs,bM.of e⟩
 |_=>exact ft h
theorem _root_._L2.k_.imp{id:String}{r r':V->List V->Hp->VK->Prop}(h:k_ X id r)(i:∀x xs H Q,r' x xs H Q->r x xs H Q):k_ X id r':=λpins s σ H x xs v us Q I rx rs q=>h pins s σ H x xs v us Q I rx rs (i x xs H Q q)
theorem Zr4:k_ X "list.append" (rM X.K cu):=k_.imp (r:=Zpd) S_ λx xs H Q ak=>by
 obtain⟨ι,M,a,ds,S,ra,rd,h⟩:=ak;cases a with
 | ref n=>
  cases ds with
  |nil=>exact h.elim|cons d ds=>
   cases ds with
   |cons _ _=>exact h.elim|nil=>
    simp only[Tu]at h;cases hn:M[n]? with
    |none=>simp only[hn]at h;exact h.elim|some o=>
     cases o with
     |dct _=>simp only[hn]at h;exact h.elim|cV _=>simp only[hn]at h;exact h.elim|ins _ _=>simp only[hn]at h;exact h.elim|lst z=>
      simp only[hn]at h;split at h
      .rename_i hz;obtain⟨p,hp,rfl⟩:=ra.dX;obtain⟨v,ws,rfl,r1,r2⟩:=rd.cons_inv;have:=r2.nil_inv;subst this;obtain⟨vs,e,rv⟩:=S.obj n _ p hn hp;obtain⟨x2,S2⟩:=S.vD (.inr (.inl ⟨_,e⟩)) hp (rv.append (au.cons r1 au.nil));exact⟨p,vs,v,rfl,rfl,e,by rw[rv.length];exact Y8 hz kj,h _ _ _ x2 S2 Rep.non⟩
      .exact h.elim
 |_=>exact h.elim
theorem jX(ho:C3 X o f)(ha:CA X (e::es) gl)(hbase:autoParam (nQ o "append" X.env (aM o X.env)=aM o X.env) qA)(hfew:((cN cpos (Yz (e::es) X.env)).all (λx=>!x.1)&&(jc cpos (i_ [] X.env)).all (λx=>x.1.isSome)
   &&decide ((e::es).length+([]:List Keyword).length+(if([]:List Keyword).isEmpty then 0 else 1)<30))=true:=by rfl)(hline:autoParam ((apos.endLine==cpos.line)=true) qA)(hs:autoParam (Yz (e::es) X.env=(false,aM e X.env)::Yz es X.env) qA)(hplain:autoParam ((cN cpos (Yz es X.env)).any (·.1)=false) qA):
  C3 X (.Call (.Attribute o "append" apos) (e::es) [] cpos) (aG bj cu f gl):=
 (Bu Rk PySem.F.slot_list_append PySem.F.type_list_append Zr4 ho ha hbase hfew hline hs hplain).imp (Cm Us)
theorem Zt3(x y:List Nat):Yml (⟨x.toArray⟩:aj) ⟨y.toArray⟩=y.isPrefixOf x:=by
 unfold Yml Builtin.Str.subAt;simp only[mK,Yq,v7];rw[Q5];simp only[Y6,decide_eq_true_eq,beq_iff_eq,List.isPrefixOf_iff_prefix];constructor
 .rintro⟨_,h⟩;have h':=congrArg Bh h;simp at h';rw[Z7];exact h'.symm
 .intro h;refine⟨h.length_le,?_⟩;rw[Z7]at h;apply Array.toList_inj.mp;simp;exact h.symm
theorem m_startswith:k_ X "str.startswith" (rM X.K sU):=by
 intro pins s σ H x xs v us Q I rx rs h;obtain⟨ι,M,a,ds,S,ra,rd,h⟩:=h;cases a with
 | str z=>
  cases ds with
  |nil=>exact h.elim|cons d ds=>
   cases ds with
   |cons _ _=>cases d<;>exact h.elim|nil=>
    cases d with
    | str y=>
     simp only[GD]at h;split at h
     .have:=ra.str_inv;subst this;obtain⟨w',ws,rfl,r1,r2⟩:=rd.cons_inv;have:=r2.nil_inv;subst this;have:=r1.str_inv;subst this;obtain⟨t,rfl⟩:=rx;obtain⟨u,rfl,ru⟩:=vals1 rs;obtain⟨t',rfl⟩:=ru;refine SC.startswith ?_;rw[Zt3];exact⟨.bl _,H,I,rfl,Zv.ok h S Rep.bl⟩
     .exact h.elim
    |_=>exact h.elim
 |_=>exact h.elim
theorem Ze9(ho:C3 X o f)(ha:CA X (e::es) gl)(hbase:autoParam (nQ o "startswith" X.env (aM o X.env)=aM o X.env) qA)(hfew:((cN cpos (Yz (e::es) X.env)).all (λx=>!x.1)&&(jc cpos (i_ [] X.env)).all (λx=>x.1.isSome)
   &&decide ((e::es).length+([]:List Keyword).length+(if([]:List Keyword).isEmpty then 0 else 1)<30))=true:=by rfl)(hline:autoParam ((apos.endLine==cpos.line)=true) qA)(hs:autoParam (Yz (e::es) X.env=(false,aM e X.env)::Yz es X.env) qA)(hplain:autoParam ((cN cpos (Yz es X.env)).any (·.1)=false) qA):
  C3 X (.Call (.Attribute o "startswith" apos) (e::es) [] cpos) (aG fM sU f gl):=
 (Bu J7 PySem.F.slot_str_startswith PySem.F.type_str_startswith m_startswith ho ha hbase hfew hline hs hplain).imp (Cm Mh)
theorem ZxK:aO X (d7 .In) (r2 X.K λa b M=>match a,b with| .str [c],.str y=>.ok (.bl (decide (c∈y))) M|_,_=>.bad):=aO.imp ZpU λx y H Q ak=>by
 obtain⟨ι,M,a,b,S,ra,rb,h⟩:=ak;cases a with
 | str z=>
  cases z with
  |nil=>cases b<;>exact h.elim|cons c z=>
   cases z with
   |cons _ _=>cases b<;>exact h.elim|nil=>
    cases b with
    |str y=>refine⟨_,_,ra.str_inv,rb.str_inv,?_⟩;have e:=Ykv (⟨y.toArray⟩:aj) c;rw[show(⟨[c].toArray⟩:aj)=⟨#[c]⟩from rfl,e];exact Zv.ok h S Rep.bl|_=>exact h.elim
 |_=>cases b<;>exact h.elim
end
variable{Q:Yh->Yl->Prop}{items:Array Yh}{prog:bR}
section
variable {X:Cx}
theorem wR(hu:X.A.units+80<jL):aO X (d7 .NotEq) (r2 X.K fU):=by
 intro pins s σ H x y v u Q I rx ry h;obtain⟨ι,M,a,b,S,ra,rb,h⟩:=h;unfold fU at h;cases q:qR a b M with
 |none=>rw[q]at h;exact h.elim|some k=>rw[q]at h;exact(T_ hu I S ra rb rx ry q).2 X.prog X.w X.xe _ ⟨.bl (!k),H,I,rfl,Zv.ok h S Rep.bl⟩
theorem ZmP(r:Rep K H ι d v)(h:cJ d=true):sJ v=true:=by
 cases d with
 |non=>rw[r.jD];rfl|bl b=>rw[r.gY];rfl|int i=>rw[r.int_inv];rfl|str x=>rw[r.str_inv];rfl
 |_=>exact ft h
theorem Ztw(x y:List Nat):((⟨x.toArray⟩:aj)==⟨y.toArray⟩)=(x==y):=by rw[Q5];simp
theorem Zul{e:D}{w:V}(r:Rep K H ι d v)(q:Rep K H ι e w)(h:cJ d=true)(h':cJ e=true):uF v w=dh d e:=by
 cases d with
 |non=>rw[r.jD];cases e with
  |non=>rw[q.jD];rfl|bl _=>rw[q.gY];rfl|int _=>rw[q.int_inv];rfl|str _=>rw[q.str_inv];rfl
  |_=>exact ft h'
 |bl _=>rw[r.gY];cases e with
  |non=>rw[q.jD];rfl|bl _=>rw[q.gY];rfl|int _=>rw[q.int_inv];rfl|str _=>rw[q.str_inv];rfl
  |_=>exact ft h'
 |int _=>rw[r.int_inv];cases e with
  |non=>rw[q.jD];rfl|bl _=>rw[q.gY];rfl|int _=>rw[q.int_inv];rfl|str _=>rw[q.str_inv];rfl
  |_=>exact ft h'
 |str _=>rw[r.str_inv];cases e with
  |non=>rw[q.jD];rfl|bl _=>rw[q.gY];rfl|int _=>rw[q.int_inv];rfl|str _=>rw[q.str_inv];exact Ztw _ _
  |_=>exact ft h'
 |_=>exact ft h
theorem Zpp{K:Yb}{H:Hp}{ι:List Y4}{d:D}{v:V}(r:Rep K H ι d v)(h:cJ d=true):∀{ds:List D} {vs:List V},au K H ι ds vs->ds.all cJ=true->vs.all sJ=true/\inV v vs=ds.any λy=>dh y d
 |[],_,q,_=>by rw[q.nil_inv];exact⟨rfl,rfl⟩|e::ds,_,q,hd=>by obtain⟨w,ws,rfl,r1,r2⟩:=q.cons_inv;rw[kW,Y6]at hd;obtain⟨h1,h2⟩:=Zpp r h r2 hd.2;refine⟨by rw[kW,ZmP r1 hd.1,h1];rfl,?_⟩;unfold inV at h2 ⊢;rw[lR,lR,h2,Zul r1 r hd.1 h]
inductive InK(a b:D)(k:Bool):Prop
 |tup (ys:List D):b= .tup ys->(ys.any λy=>dh y a)=k->cJ a=true->ys.all cJ=true->InK a b k
 |str (c:Nat) (y:List Nat):a= .str [c]->b= .str y->decide (c∈y)=k->InK a b k
theorem inK{a b:D}{k:Bool}(h:inD a b=Ya k):InK a b k:=by
 cases b with
 |tup ys=>exact have w:=T9 h;.tup ys rfl w.1 w.2.1 w.2.2|str y=>
  cases a with
  | str z=>cases z with
   |nil=>exact jq h|cons c z=>cases z with
    |nil=>exact .str c y rfl rfl (Y2 h)|cons _ _=>exact jq h
  |_=>exact jq h
 |_=>exact jq h
theorem Zrc{Q:VK}{a:D}{ys:List D}{x y:V}(n:Bool)(ra:Rep K H ι a x)(rb:Rep K H ι (.tup ys) y)(fa:cJ a=true)(fs:ys.all cJ=true)(q:Q (.bl (if n then !(ys.any λy=>dh y a)else ys.any λy=>dh y a)) H):SQ K n x y H Q:=by obtain⟨p,vs,e,s,r⟩:=rb.ji;obtain⟨h1,h2⟩:=Zpp ra fa r fs;exact⟨p,vs,e,.inr s,ZmP ra fa,h1,by rw[h2];exact q⟩
theorem Ut(hu:X.A.units+80<jL):aO X (d7 .In) (r2 X.K mX):=aO.imp (aO.or ZxK Zqh) λx y H Q ak=>by
 obtain⟨ι,M,a,b,S,ra,rb,h⟩:=ak;unfold mX at h;cases q:inD a b with
 |none=>rw[q]at h;exact h.elim|some k=>
  rw[q]at h;rcases inK q with⟨ys,eb,ek,fa,fs⟩|⟨c,z,ea,eb,ek⟩
  .rw[eb]at rb;rw[←ek]at h;exact .inr (Zrc false ra rb fa fs (Zv.ok h S Rep.bl))
  .rw[ea]at ra;rw[eb]at rb;rw[←ek]at h;exact .inl ⟨ι,M,_,_,S,ra,rb,h⟩
theorem ZsE:aO X (d7 .NotIn) (r2 X.K λa b M=>match a,b with| .str [c],.str y=>.ok (.bl (!decide (c∈y))) M|_,_=>.bad):=aO.imp Zl5 λx y H Q ak=>by
 obtain⟨ι,M,a,b,S,ra,rb,h⟩:=ak;cases a with
 | str z=>
  cases z with
  |nil=>cases b<;>exact h.elim|cons c z=>
   cases z with
   |cons _ _=>cases b<;>exact h.elim|nil=>
    cases b with
    |str y=>refine⟨_,_,ra.str_inv,rb.str_inv,?_⟩;have e:=Ykv (⟨y.toArray⟩:aj) c;rw[show(⟨[c].toArray⟩:aj)=⟨#[c]⟩from rfl,e];exact Zv.ok h S Rep.bl|_=>exact h.elim
 |_=>cases b<;>exact h.elim
theorem ZtA(hu:X.A.units+80<jL):aO X (d7 .NotIn) (r2 X.K Bx):=aO.imp (aO.or ZsE Zlh) λx y H Q ak=>by
 obtain⟨ι,M,a,b,S,ra,rb,h⟩:=ak;unfold Bx at h;cases q:inD a b with
 |none=>rw[q]at h;exact h.elim|some k=>
  rw[q]at h;rcases inK q with⟨ys,eb,ek,fa,fs⟩|⟨c,z,ea,eb,ek⟩
  .rw[eb]at rb;rw[←ek]at h;exact .inr (Zrc true ra rb fa fs (Zv.ok h S Rep.bl))
  .rw[ea]at ra;rw[eb]at rb;rw[←ek]at h;exact .inl ⟨ι,M,_,_,S,ra,rb,h⟩
theorem Zso(x:List Nat)(n:Nat)(a:List Nat):(Yr n x.toArray).foldl (· ++ ·) a.toArray=(a++(Yr n x).flatten).toArray:=by
 induction n generalizing a with
 |zero=>simp|succ n ih=>rw[tZ,jG,tZ,kJ];have:=ih (a++x);simp only[List.append_toArray]at this ⊢;rw[this];simp
theorem ZwQ(x:List Nat)(k:Int):Txt.mul (⟨x.toArray⟩:aj) k=⟨(Yr k.toNat x).flatten.toArray⟩:=by
 unfold Txt.mul;split
 .rename_i h;have:k.toNat=0:=Y1 (j9 (Int.toNat_of_nonpos (iN [] [_] 1 235446417 T1 h))) (fC _);rw[this];rfl
 .split
  .rename_i h1 h2;simp only[yh,beq_iff_eq,mK,Yq]at h2;rcases h2 with h2|h2
   .subst h2;simp
   .have:x=[]:=Jj h2;subst this;simp
  .have:=Zso x k.toNat [];rw[jk]at this;exact congrArg Str.mk this
theorem au.repl(r:au K H ι ds vs):∀k:Nat,au K H ι (Yr k ds).flatten (Yr k vs).flatten
 |0=>au.nil|k+1=>by rw[tZ,tZ,kJ,kJ];exact r.append (au.repl r k)
theorem za:aO X (jb .Mult) (r2 X.K iW):=by
 have hs:aO X (jb .Mult) (λx y H Q=>∃(z:List Nat) (k:Int),x= .str ⟨z.toArray⟩/\y= .int k/\z.length*k.toNat<=1000000/\k<1000000/\ -1000000<k/\Q (.str ⟨(Yr k.toNat z).flatten.toArray⟩) H):=by
  intro pins s σ H x y v u Q I rx ry h;obtain⟨z,k,rfl,rfl,h1,h2,h3,q⟩:=h;obtain⟨t,rfl⟩:=rx;obtain⟨t',rfl⟩:=ry;refine SB.mul ⟨?_,λh4 h5=>?_,λh4 h5=>?_⟩ λt'' tk=>?_
  .simp;omega
  .simp only[mK,Yq];simp at h4 h5;have hk:2<=k:=by
    simp only[mK,Yq]at h5;omega
   have e:(k.toNat:Int)=k:=qJ (wg (nU (iN [] [_] 1 3892452225 T1 hk))) ((v_ _));have hm:(z.length:Int)*k<=1000000:=by have h1':((z.length*k.toNat:Nat):Int)<=1000000:=Bb.mpr h1;rw[Q9,e]at h1';exact h1'
   have hd:(z.length:Int)<=9223372036854775807 / k:=Int.le_ediv_of_mul_le (iN [] [_] 1 3909229441 T1 hk) (by omega);show¬((z.length:Int)>(2^63-1) / k);have e3:((2:Int)^63-1)=9223372036854775807:=by decide
   rw[e3];exactλz=>iN [_] [_] 2 6599352549521 T1 z hd
  .unfold Yju;simp only[mK,Yq,decide_eq_false_iff_not];have hsz:(1000000:Nat)<=bG:=kj;exactλz=>lB 3 0x6f42405b1010f42405b011011 T1 z hsz h1
  .rw[ZwQ];exact⟨.str _,H,I.tok _,⟨_,rfl⟩,q⟩
 refine aO.imp (aO.or ZuZ (aO.or hs Zvq)) λx y H Q ak=>?_;obtain⟨ι,M,a,b,S,ra,rb,h⟩:=ak;cases a with
 | int i=>cases b with
  |int j=>obtain⟨hm,h⟩:=wJ h;refine .inl ⟨i,j,ra.int_inv,rb.int_inv,?_,Zv.ok h S Rep.int⟩;simp only[mW,yh,Y6,decide_eq_true_eq]at hm;exact hm|_=>exact h.elim
 | str z=>cases b with
  |int k=>obtain⟨hz,h⟩:=wJ h;exact .inr (.inl ⟨z,k,ra.str_inv,rb.int_inv,hz.1,hz.2.1,hz.2.2,Zv.ok h S Rep.str⟩)|_=>exact h.elim
 | ref n=>cases b with
  |int k=>
   have h:Zv X.K H ι Q (yX M[n]? λx=>@ite _ (x.length*k.toNat<=SZ/\k<1000000/\ -1000000<k) (Y0 _) (alloc (.lst (Yr k.toNat x).flatten) M) .bad):=h;obtain⟨z,hn,h⟩:=Lw h;obtain⟨hz,h⟩:=wJ h;obtain⟨p,hp,e'⟩:=ra.dX;obtain⟨vs,e,r⟩:=S.obj n _ p hn hp;refine .inr (.inr ⟨p,k,vs,e',rb.int_inv,e,?_,?_,by rw[r.length];exact Yi hz.1 kj,λq hq=>?_⟩)
   .exact Int.le_trans (by decide) (J1 hz.2.2)
   .exact Yj4 hz.2.1 (by decide)
   obtain⟨x2,S2,r2⟩:=S.lst hq (au.repl r k.toNat);exact h _ _ _ x2 S2 r2
  |_=>exact h.elim
 |_=>cases b<;>exact h.elim
theorem Zps(n d:Nat)(hd:d<=n)(o:Option Int):(match o with|none=>(d:Int)|some i=>max 0 (jN (if i<0 then i+(n:Int)else i) (n:Int)))=((aF n d o:Nat):Int):=by
 cases o with
 |none=>rfl|some v=>
  show max 0 (jN (if v<0 then v+(n:Int)else v) (n:Int))=(((if v<0 then(v+(n:Int)).toNat else jN v.toNat n):Nat):Int);by_cases h:v<0
  .rw[if_pos h,if_pos h];exact RP v n h
  .rw[if_neg h,if_neg h];exact RQ v n h
theorem Ziz(lo hi:Option Int)(n:Nat):J4 lo hi 1 n=(iC (aF n n hi-aF n 0 lo)).map (λk=>aF n 0 lo+k):=by
 have e1:=Zps n 0 (fC _) lo;have e2:=Zps n n (Yt _) hi;have key:J4 lo hi 1 n=sliceRange ((aF n 0 lo:Nat):Int) ((aF n n hi:Nat):Int) 1:=by rw[←e1,←e2];simp only[J4,show((1:Int)>0)=True from by simp,if_true];cases lo<;>cases hi<;>rfl
 rw[key];generalize aF n 0 lo=a;generalize aF n n hi=b;simp only[sliceRange,show((1:Int)>0)=True from by simp,if_true];by_cases hlt:(a:Int)<b
 .have e3:(((b:Int)-a+1-1) / 1).toNat=b-a:=by first|exact Y1 (iN [_,_,_,_] [_] 3 0x230038a112c001aa1808fcf001d81 T1 (Int.mul_ediv_self_le (by decide)) (gO _ _) (nU (iN [_,_] [_] 2 0xe8a001dcaa0818fcf91180891 T1 hlt (Yg9 (by decide))))) (iN [_,_,_,_] [_] 3 0x230013c2128081a001dcaa1808fcf91 T1 (Yg9 (by decide)) (v_ _) (Y9 (iN [_,_] [] 1 4296542353 T1 hlt)))|(simp;done)|(simp;omega)
  simp only[hlt,if_true,e3];refine Ae λk _=>?_;exact Y1 (iN [_,_,_] [] 1 0x21c002801d18c08a1 T1 (nU (iN [_,_] [] 0 103109659880 T1))) (iN [_,_,_] [] 1 0x210c0281801d08c81 T1 (v_ _))
 .have:b-a=0:=Y1 (j9 (Yin (iN [_,_] [] 1 270010577 T1 hlt))) (fC _);simp[hlt,this]
theorem KQ(n d:Nat)(hd:d<=n)(o:Option Int):aF n d o<=n:=by
 cases o with
 |none=>exact hd|some v=>simp only[aF];split <;>omega
theorem ZnM(z:List Nat)(lo hi:Option Int)(l u:Option (Int×gw))(hl:l.map (·.1)=lo)(hu:u.map (·.1)=hi):
  (if((1:Int)==1&&(yc ⟨z.toArray⟩ l u Ym).length==(⟨z.toArray⟩:aj).length)=true then(⟨z.toArray⟩:aj)else⟨((yc ⟨z.toArray⟩ l u Ym).filterMap ((⟨z.toArray⟩:aj).cps[·]?)).toArray⟩)=⟨(cutD z lo hi).toArray⟩:=by
 have e0:yc ⟨z.toArray⟩ l u Ym=(iC (aF z.length z.length hi-aF z.length 0 lo)).map (λk=>aF z.length 0 lo+k):=by unfold yc;rw[hl,hu];simp only[mK,Yq];exact Ziz lo hi z.length
 have hb:=KQ z.length z.length (Yt _) hi;rw[e0];have pick:((iC (aF z.length z.length hi-aF z.length 0 lo)).map (λk=>aF z.length 0 lo+k)).filterMap ((⟨z.toArray⟩:aj).cps[·]?)=cutD z lo hi:=by
  unfold cutD;by_cases hab:aF z.length 0 lo<=aF z.length z.length hi
  .have h:=StrLaws.picks z (aF z.length z.length hi-aF z.length 0 lo) (aF z.length 0 lo) (lD 2 82120338080600065 T1 hb (Y9 hab));simpa using h
  .have:aF z.length z.length hi-aF z.length 0 lo=0:=Y1 (j9 (Yin (lB 1 1052737 T1 hab))) (fC _);rw[this];simp
 rw[pick];split
 .rename_i hc;simp only[Yu,Jq,mK,Yq,Y6,beq_iff_eq]at hc;have hc2:=hc.2;have h0:aF z.length 0 lo=0\/z.length=0:=by omega
  have:cutD z lo hi=z:=by
   unfold cutD;rcases h0 with h0|h0
   .rw[h0,Js,rT (by exact lD 3 0x3102001e3c2011031 T1 hc2 (gO _ _) (FJ _ _))]
   .have:z=[]:=Jj h0;subst this;simp
  rw[this]
 .rfl
theorem ZuY:j_ X (λx lo hi H Q=>∃z:List Nat,x= .str ⟨z.toArray⟩/\z.length<=SZ/\Q (.str ⟨(cutD z lo hi).toArray⟩) H):=by
 intro pins s σ H x v vl vu lo hi sl Q I rx hs pl pu h;obtain⟨z,rfl,hz,q⟩:=h;obtain⟨t,rfl⟩:=rx;have part:∀{v:Yh} {o:Option Int},IsPart v o->∃p:Option (Int×gw),v=partValue p/\p.map (·.1)=o:=by
  intro v o h;cases h with
  |none=>exact⟨Ym,rfl,rfl⟩|int i t=>exact⟨Ya (i,t),rfl,rfl⟩
 obtain⟨l,rfl,hl⟩:=part pl;obtain⟨u,rfl,hu⟩:=part pu;refine⟨"str",_,PySem.F.slot_str_getitem.lookup,yd _ _ _,?_⟩;refine wpAny_getItem_str_slice (l:=l) (u:=u) (st:=Ym) hs rfl ?_;unfold sliceMade;refine post_val_or_made (λ_=>?_) λt' k=>?_
 .show((yc ⟨z.toArray⟩ l u Ym).filterMap ((⟨z.toArray⟩:aj).cps[·]?)).toArray.size<=bG;rw[Yq];refine Yi (List.length_filterMap_le _ _) ?_;show(J4 (l.map (·.1)) (u.map (·.1)) 1 (⟨z.toArray⟩:aj).length).length<=bG;rw[Ziz];simp only[Yu,Jq,mK,Yq];have:=KQ z.length z.length (Yt _) (u.map (·.1));have:=kj;omega
 .have e:=ZnM z lo hi l u hl hu;have e':(if(((Ym:Option (Int×gw)).map (·.1)).getD 1==1&&(yc ⟨z.toArray⟩ l u Ym).length==(⟨z.toArray⟩:aj).length)=true then(⟨z.toArray⟩:aj)else⟨((yc ⟨z.toArray⟩ l u Ym).filterMap ((⟨z.toArray⟩:aj).cps[·]?)).toArray⟩)=⟨(cutD z lo hi).toArray⟩:=e;rw[e'];exact⟨.str _,H,I.tok _,⟨_,rfl⟩,q⟩
theorem Zg3{t sl:Y4}{vl vu:Yh}{lo hi:Option Int}(ht:IsTup s.heap t items)(hs:s.heap.IsSliceOf sl vl vu .none)(pl:IsPart vl lo)(pu:IsPart vu hi)(hw:_HT.aF items.size 0 lo=0/\_HT.aF items.size items.size hi=items.size)(h:Q (.ref t) s):ao (aB prog w) A (qH (.ref t) (.ref sl)) Q E s:=by
 obtain⟨os,hos,hcs,hds⟩:=id hs;have hTs:s.TypeIs (.ref sl) "slice":=⟨os,hos,hcs⟩;unfold qH
 try with_reducible refine iD ?_
 first|refine Yg (Yv ?_)|skip
 refine Yg (Qv ht.typeIs (by decide) ?_);refine Yg (xW (name:=qL "__getitem__") ht.typeIs J5
  (vO J5 ht.typeIs Yjh ?_ (Ykb _ _)))
 show ao _ _ (Ygj (.ref t)>>=_) _ _ s;refine Yg (tupleItemsOf_ ht ?_);refine Yg (QH hTs ?_);rw[if_pos (by decide)];refine Yg (_HT.Xp hs pl pu ?_);have AbE:(((_HT.aF items.size 0 lo:Nat):Int)==0&&(1:Int)==1&&(_HT.aF items.size items.size hi-_HT.aF items.size 0 lo)==items.size)=true:=by rw[hw.1,hw.2];simp
 show ao _ _ (if(((_HT.aF items.size 0 lo:Nat):Int)==0&&(1:Int)==1&&(_HT.aF items.size items.size hi-_HT.aF items.size 0 lo)==items.size)=true then _ else _) _ _ s;rw[if_pos AbE];unfold Builtin.Tuple.tupleIsExact;refine Yg (Yg (QH ht.typeIs (Yv ?_)));rw[if_pos (by decide)];exact Yg (JF (Yv ⟨_,rfl,Yv h⟩))
theorem Zt2:j_ X (λx lo hi H Q=>∃a xs,x= .ref a/\cW X.K H a xs/\(_HT.aF xs.length 0 lo=0/\_HT.aF xs.length xs.length hi=xs.length)/\Q (.ref a) H):=by
 intro pins s σ H x v vl vu lo hi sl Q I rx hs pl pu h;obtain⟨a,xs,rfl,hx,hw,q⟩:=h;cases rx;obtain⟨its,r,ht,hz⟩:=I.tuple hx;have hlen:its.toArray.size=xs.length:=by rw[Yq];exact r.length.symm
 refine⟨"tuple",_,PyProof.Rows.slot_tuple_getitem.lookup,ht.typeIs,?_⟩;exact Zg3 ht hs pl pu (by rw[hlen];exact hw) ⟨.ref a,H,I,rfl,q⟩
theorem ql:j_ X (rS X.K):=j_.imp (j_.or (j_.or ZvD Zt2) (j_.or Zs5 ZuY)) λx lo hi H Q ak=>by
 obtain⟨ι,M,a,S,ra,h⟩:=ak;have ex:∀n d o,_HT.aF n d o=aF n d o:=λn d o=>by cases o<;>rfl
 cases a with
 | tup ds=>
  simp only[Gx,Gy,BJ,BK]at h;obtain⟨p,vs,rfl,s,r⟩:=ra.ji;by_cases hw:aF ds.length 0 lo=0/\aF ds.length ds.length hi=ds.length
  .refine .inl (.inr ⟨p,vs,rfl,s,by rw[ex,ex,r.length];exact hw,?_⟩);have e:cutD ds lo hi=ds:=by unfold cutD;rw[hw.1,hw.2];simp
   rw[e]at h;exact Zv.ok h S (Rep.tup s r)
  .refine .inl (.inl ⟨p,vs,rfl,s,by rw[ex,ex,r.length];exact hw,λq hq=>?_⟩);obtain⟨x2,S2,r2⟩:=S.vC hq (Ub r lo hi);exact h _ _ _ x2 S2 r2
 |bD ds=>simp only[Gx,Gy,BJ,BK]at h;obtain⟨p,vs,rfl,s,r⟩:=ra.tR;refine .inr (.inl ⟨p,vs,rfl,s.sq,λq hq=>?_⟩);obtain⟨x2,S2,r2⟩:=S.lst hq (Ub r lo hi);exact h _ _ _ x2 S2 r2|str z=>
  simp only[Gx,Gy,BJ,BK]at h;split at h
  .rename_i hz;exact .inr (.inr ⟨z,ra.str_inv,hz,Zv.ok h S Rep.str⟩)
  .exact h.elim
 | ref n=>
  simp only[Gx,Gy,BJ,BK]at h;cases hn:M[n]? with
  |none=>simp only[hn]at h;exact h.elim|some o=>
   cases o with
   |dct _=>simp only[hn]at h;exact h.elim|cV _=>simp only[hn]at h;exact h.elim|ins _ _=>simp only[hn]at h;exact h.elim|lst ds=>simp only[hn]at h;obtain⟨p,hp,rfl⟩:=ra.dX;obtain⟨vs,e,r⟩:=S.obj n _ p hn hp;refine .inr (.inl ⟨p,vs,rfl,bM.of e,λq hq=>?_⟩);obtain⟨x2,S2,r2⟩:=S.lst hq (Ub r lo hi);exact h _ _ _ x2 S2 r2
 |_=>exact h.elim
theorem zb{xs:List V}(r:au K H ι [d] xs):∃x,xs=[x]/\Rep K H ι d x:=by obtain⟨v,ws,rfl,r1,r2⟩:=r.cons_inv;have:=r2.nil_inv;subst this;exact⟨v,rfl,r1⟩
theorem gJ:dB X (.builtin "len") (rB X.K bx):=dB.imp Zse λxs H Q ak=>by
 obtain⟨ι,M,ds,S,rd,h⟩:=ak;cases ds with
 |nil=>exact h.elim|cons d ds=>
  cases ds with
  |cons _ _=>cases d<;>exact h.elim|nil=>
   obtain⟨x,rfl,r⟩:=zb rd;cases d with
   |tup z=>obtain⟨p,vs,rfl,s,r'⟩:=r.ji;exact⟨_,vs.length,rfl,.inr ⟨vs,s,rfl⟩,by rw[r'.length];exact Zv.ok h S Rep.int⟩|bD z=>obtain⟨p,vs,rfl,s,r'⟩:=r.tR;exact⟨_,vs.length,rfl,.inl ⟨vs,s.sq,rfl⟩,by rw[r'.length];exact Zv.ok h S Rep.int⟩|str z=>
    simp only[yJ,yK,yL,qT]at h;split at h
    .rename_i hz;have:=r.str_inv;subst this;refine⟨_,z.length,rfl,⟨?_,?_⟩,Zv.ok h S Rep.int⟩
     .show z.toArray.size<=bG;rw[Yq];exact Yi hz kj
     .show z.length=z.toArray.size;rw[Yq]
    .exact h.elim
   | ref n=>
    cases hn:M[n]? with
    |none=>rw[qT,hn]at h;exact h.elim|some o=>
     cases o with
     |dct _=>rw[qT,hn]at h;exact h.elim|cV _=>rw[qT,hn]at h;exact h.elim|ins _ _=>rw[qT,hn]at h;exact h.elim|lst z=>simp only[yJ,yK,yL,qT,hn]at h;obtain⟨p,hp,rfl⟩:=r.dX;obtain⟨vs,e,r'⟩:=S.obj n _ p hn hp;exact⟨_,vs.length,rfl,.inl ⟨vs,bM.of e,rfl⟩,by rw[r'.length];exact Zv.ok h S Rep.int⟩
   |_=>exact h.elim
theorem nu:dB X (.type "tuple") (rB X.K gC):=dB.imp Zkp λxs H Q ak=>by
 obtain⟨ι,M,ds,S,rd,h⟩:=ak;cases ds with
 |nil=>exact h.elim|cons d ds=>
  cases ds with
  |cons _ _=>cases d<;>exact h.elim|nil=>
   obtain⟨x,rfl,r⟩:=zb rd;cases d with
   |tup z=>obtain⟨p,vs,rfl,s,r'⟩:=r.ji;exact⟨p,vs,rfl,.inr ⟨s,Zv.ok h S (Rep.tup s r')⟩⟩|bD z=>obtain⟨p,vs,rfl,s,r'⟩:=r.tR;refine⟨p,vs,rfl,.inl ⟨s.sq,λq hq=>?_⟩⟩;obtain⟨x2,S2,r2⟩:=S.vC hq r';exact h _ _ _ x2 S2 r2|ref n=>
    cases hn:M[n]? with
    |none=>rw[BP,hn]at h;exact h.elim|some o=>
     cases o with
     |dct _=>rw[BP,hn]at h;exact h.elim|cV _=>rw[BP,hn]at h;exact h.elim|ins _ _=>rw[BP,hn]at h;exact h.elim|lst z=>simp only[ZkJ,ZkD,BP,hn]at h;obtain⟨p,hp,rfl⟩:=r.dX;obtain⟨vs,e,r'⟩:=S.obj n _ p hn hp;refine⟨p,vs,rfl,.inl ⟨bM.of e,λq hq=>?_⟩⟩;obtain⟨x2,S2,r2⟩:=S.vC hq r';exact h _ _ _ x2 S2 r2
   |_=>exact h.elim
theorem Zr7:dB X (.type "list") (rB X.K sO):=dB.imp Zmb λxs H Q ak=>by
 obtain⟨ι,M,ds,S,rd,h⟩:=ak;cases ds with
 |nil=>exact h.elim|cons d ds=>
  cases ds with
  |cons _ _=>cases d<;>exact h.elim|nil=>
   obtain⟨x,rfl,r⟩:=zb rd;cases d with
   |tup z=>obtain⟨p,vs,rfl,s,r'⟩:=r.ji;refine⟨p,vs,rfl,.inr s,λq hq=>?_⟩;obtain⟨x2,S2,r2⟩:=S.lst hq r';exact h _ _ _ x2 S2 r2|bD z=>obtain⟨p,vs,rfl,s,r'⟩:=r.tR;refine⟨p,vs,rfl,.inl s.sq,λq hq=>?_⟩;obtain⟨x2,S2,r2⟩:=S.lst hq r';exact h _ _ _ x2 S2 r2|ref n=>
    cases hn:M[n]? with
    |none=>rw[Gz,hn]at h;exact h.elim|some o=>
     cases o with
     |dct _=>rw[Gz,hn]at h;exact h.elim|cV _=>rw[Gz,hn]at h;exact h.elim|ins _ _=>rw[Gz,hn]at h;exact h.elim|lst z=>simp only[Zq3,ZqZ,Gz,hn]at h;obtain⟨p,hp,rfl⟩:=r.dX;obtain⟨vs,e,r'⟩:=S.obj n _ p hn hp;refine⟨p,vs,rfl,.inl (bM.of e),λq hq=>?_⟩;obtain⟨x2,S2,r2⟩:=S.lst hq r';exact h _ _ _ x2 S2 r2
   |_=>exact h.elim
end
theorem gq:kY "len" =Ya (.builtin "len"):=by decide +kernel
theorem Cp:kY "all" =Ya (.builtin "all"):=by decide +kernel
theorem ZgO:kY "isinstance" =Ya (.builtin "isinstance"):=by decide +kernel
theorem Zwd:kY "int" =Ya (.type "int"):=by decide +kernel
theorem Zry:kY "str" =Ya (.type "str"):=by decide +kernel
theorem ZoW:kY "list" =Ya (.type "list"):=by decide +kernel
theorem nA:kY "tuple" =Ya (.type "tuple"):=by decide +kernel
section
variable {X:Cx} {a:Expr} {pos p p2:aZ} {f:E3}
noncomputable def fY:o4->String
 | .int=>"int" | .bool=>"bool" | .str=>"str" | .list=>"list" | .tuple=>"tuple"
theorem zc(K:Yb)(t:String)(T:o4)(ht:t∈["NoneType","bool","int","str","list","tuple","dict"]):
  Z3 K (.type t) (.type (fY T))=Ya (t==fY T|| (t== "bool" &&fY T== "int")):=by
 simp only[Yo,qD,or_false]at ht;rcases ht with rfl|rfl|rfl|rfl|rfl|rfl|rfl <;>cases T<;>kernel_rfl
theorem Uu(T:o4):kY (fY T)=Ya (.type (fY T)):=by cases T<;>decide +kernel
noncomputable def Zxj(T:o4)(o:Option MO):Option Bool:=match o with
 |some (.lst _)=>Ya (T== .list)|some (.dct _)=>Ya false|some (.cV _)=>Ym|some (.ins _ _)=>Ym
 |none=>Ym
theorem Zs7{T:o4}{x:V}{b:Bool}(I:Inv X pins σ H s)(S:aH X.K H ι M)(r:Rep X.K H ι d x)(ru:RelV x u)(e:lu T d M=Ya b)(h:∀tk,Q (.bool b) {s with toks:=tk}):ao (aB X.prog X.w) A (call (.builtin "isinstance") [u,.type (fY T)]) Q E s:=by
 cases d with
 |non=>rw[r.jD]at ru;exact Bs I ru .non ((zc X.K "NoneType" T (by decide)).trans (wj (by cases T<;>rfl) e)) h|bl c=>rw[r.gY]at ru;exact Bs I ru (.bl c) ((zc X.K "bool" T (by decide)).trans (wj (by cases T<;>rfl) e)) h|int i=>rw[r.int_inv]at ru;exact Bs I ru (.int i) ((zc X.K "int" T (by decide)).trans (wj (by cases T<;>rfl) e)) h|str z=>rw[r.str_inv]at ru;exact Bs I ru (.str _) ((zc X.K "str" T (by decide)).trans (wj (by cases T<;>rfl) e)) h
 |tup ds=>obtain⟨p,vs,its,_,eu,⟨o,h1,h2,_⟩,_⟩:=yZ I r ru;rw[eu];exact pJ PX I.fG ⟨o,h1,h2⟩ ((zc X.K "tuple" T (by decide)).trans (wj (by cases T<;>rfl) e)) (λz=>nomatch z) h|bD ds=>exact jq e|ref n=>
  have e:Zxj T M[n]?=Ya b:=e;obtain⟨a,ha,ex⟩:=r.dX;rw[ex]at ru;cases hn:M[n]? with
  |none=>rw[hn]at e;exact jq e|some o=>
   rw[hn]at e;cases o with
   |lst z=>obtain⟨vs,ev,_⟩:=S.obj n _ a hn ha;exact Bs I ru (.lst ev) ((zc X.K "list" T (by decide)).trans (wj (by cases T<;>rfl) e)) h|dct z=>obtain⟨vs,ev,_⟩:=S.obj n _ a hn ha;exact Bs I ru (.dK ev) ((zc X.K "dict" T (by decide)).trans (wj (by cases T<;>rfl) e)) h|cV z=>exact jq e|ins _ _=>exact jq e
theorem rA(T:o4)(hm:X.mg "isinstance" =Ym)(hm2:X.mg x=Ym)(h:C3 X a f)(hx:autoParam (x=(qL (fY T))) qA)(hg:autoParam (Gl X "isinstance") qA)(hg2:autoParam (Gl X x) qA)(hn:autoParam (x≠ "__name__") qB)(hd:autoParam ((x==("__debug__":aj))=false) qB)(hs:autoParam (Yz (a::[.Name x p2]) X.env=(false,aM a X.env)::Yz [.Name x p2] X.env) qA)(hs2:autoParam (Yz (.Name x p2::[]) X.env=(false,aM (.Name x p2) X.env)::Yz [] X.env) qA)(hpl:autoParam ((cN pos (Yz [.Name x p2] X.env)).any (·.1)=false) qA):C3 X (.Call (.Name "isinstance" p) [a,.Name x p2] [] pos) (e1 (jt T) f):=by
 subst hx;have hc:dB X (.builtin "isinstance") (λxs H Q=>∃ι M d x,xs=[x,.ty (fY T)]/\aH X.K H ι M/\Rep X.K H ι d x/\Zv X.K H ι Q (jt T d M)):=by
  intro pins s σ H xs us Q I r q;obtain⟨ι,M,d,x,rfl,S,rd,q⟩:=q;obtain⟨u,w',rfl,ru,lg⟩:=vals2 r;cases lg;unfold jt at q;cases e:lu T d M with
  |none=>rw[e]at q;exact q.elim|some b=>rw[e]at q;exact Zs7 I S rd ru e λtk=>⟨.bl b,H,I.tok _,rfl,Zv.ok q S Rep.bl⟩
 refine(KN hc hg hm ZgO (wz h (wz (R9 hg2 hm2 (Uu T) (v:=.ty (fY T)) rfl hn hd) Gm hs2) hs) (by decide) (by decide) hs hpl).imp λσ H Q ak=>?_;obtain⟨ι,M,env,S,E,h⟩:=ak;obtain⟨d,M1,e1,h⟩:=Zv.bind h;refine⟨ι,M,env,S,E,?_⟩;rw[e1];intro v H1 ι1 x1 S1 r1;exact⟨ι1,M1,d,v,rfl,S1,r1,h.up x1⟩
theorem ZgU{p:D->Bool}:∀{l:List D} {e:Nat->Bool},(∀(j:Nat) d,l[j]?=Ya d->e j=p d)->(iC l.length).all e=l.all p
 |[],_,_=>rfl|d::l,e,h=>by rw[Yk,Z9,kW,List.all_map,h 0 d rfl,kW];congr 1;exact ZgU λj d' hj=>h (j+1) d' (by simpa using hj)
theorem Cq(hc:X.calm=true):dB X (.builtin "all") (rB X.K sS):=by
 intro pins s σ H xs us Q I rs h;obtain⟨ι,M,ds,S,rd,h⟩:=h;cases ds with
 |nil=>exact h.elim|cons d ds=>
  cases ds with
  |cons _ _=>cases d<;>exact h.elim|nil=>
   obtain⟨x,rfl,r⟩:=zb rd;obtain⟨u,rfl,ru⟩:=vals1 rs;cases d with
   | ref n=>
    cases hn:M[n]? with
    |none=>rw[BV,hn]at h;exact h.elim|some o=>
     cases o with
     |dct _=>rw[BV,hn]at h;exact h.elim|cV _=>rw[BV,hn]at h;exact h.elim|ins _ _=>rw[BV,hn]at h;exact h.elim|lst z=>
      simp only[BV,hn]at h;cases q:allB z with
      |none=>rw[q]at h;exact h.elim|some b=>
       rw[q]at h;obtain⟨a,ha,rfl⟩:=r.dX;cases ru;obtain⟨vs,ev,rv⟩:=S.obj n _ a hn ha;obtain⟨its,rr,pl,_⟩:=I.list (bM.of ev);have hz:z.all BR=true/\z.all yM=b:=by
        unfold allB at q;split at q
        .rename_i hz;exact⟨hz,Y2 q⟩
        .cases q
       have hlen:its.toArray.size=z.length:=by rw[Yq,←rr.length,rv.length]
       have hhd:X.A.in1.handled=Ym:=I.ok.hd hc;refine call_all_walk (vN pl.isList ⟨s.heap.objs.size,_,_,_,_,_,(λj=>match z[j]? with|some d=>yM d|none=>true),rfl,Ke hhd s.heap.objs.size a (d8 (I.hok.lt ev)) its.toArray,⟨⟨_,Y5 _ rfl,rfl,rfl⟩,pl.isList.at λo e=>Yn _ e⟩,?_,?_⟩)
       .intro j v s' Q' E' hv hq;have hv':its[j]?=Ya v:=by simpa using hv
        have hj:j<z.length:=by have:=(Ye.mp hv').1;rw[←Yq,hlen]at this;exact this
        have e1:z[j]?=Ya z[j]:=by simp[hj]
        have hb:=iw.mp hz.1 _ (t8 hj);obtain⟨w,g1,g2⟩:=rv.get e1;obtain⟨u',k1,k2⟩:=rr.get g1;rw[hv']at k1;cases k1;have hq':Q' (yM z[j]) s':=by have:=hq;simp only[e1]at this;exact this
        generalize z[j]=dj at hb g2 hq';cases dj with
        |bl c=>have:=g2.gY;subst this;cases k2;exact qF hq'|_=>simp[BR]at hb
       .intro h' tk kk;rw[hlen,ZgU (p:=yM) (λj d hd=>by rw[hd]),hz.2];exact⟨.bl b,H,I.kept (λc o e=>kk c o (by simp;exact d8 (Y7 e)) (Yn _ e)),rfl,Zv.ok h S Rep.bl⟩
   |_=>exact h.elim
end
noncomputable def ZuB(outer:List (aj×NameKind))(N:List aj)(scope:Scope)(N':List aj)(own:Nat):Bool:=
 (scope.names.all λy=>decide (y.2≠ .cell)&&(decide (y.2≠ .free)|| decide (outer.lookup y.1=Ya .cell)|| decide (outer.lookup y.1=Ya .free))&&(decide (y.2≠ .local)|| decide (scope.names.lookup y.1=Ya .local)))&&
  decide (N'.length=N.length+own)&&Uc N N' scope
theorem lH{scope:Scope}{N':List aj}{own:Nat}(hk:scope.kind= .function)(h:ZuB X.env.scope.names X.N scope N' own=true):wQ X scope N' own:=by
 simp only[ZuB,Y6,decide_eq_true_eq,iw,yh]at h;obtain⟨⟨h1,h2⟩,h3⟩:=h;refine⟨hk,λy hy=>(h1 y hy).1.1,λy hy e=>?_,λy hy e=>?_,h2,h3⟩
 .rcases(h1 y hy).1.2 with(q|q)|q
  .exact absurd e q
  .exact .inl q
  .exact .inr q
 .rcases(h1 y hy).2 with q|q
  .exact absurd e q
  .exact q
theorem fK{h:aR}{mg:aj->Option Yh}(KX:K.In h)(G:h.Ns Yx mg){f:Y4}{oc:Yh}{od an:Option Y4}{osl:Array (Option Yh)}{dV kV doc pm cdv ct:Yh}(a:PySem.W.nsIn K Yx x=Ya (Ya (.ref f)))(l:K.lookup f=Ya ⟨oc,od,.func (rR x x (cT st) (cH st) (Zk st) dV kV doc pm an cdv ct),osl⟩)(c:EY K cdv x=true)(k:tY K (.ref f)=true)(b:Binds K (rR x x (cT st) (cH st) (Zk st) dV kV doc pm an cdv ct) ps []):bC K mg x st ps:=⟨f,_,Zsl l c k,Z5 KX G a,b⟩
theorem ZxM{l:PySem.W.OpenLaw}{k:Nat}{q:bR}{loose:List aj}{XP:(aj->Option Yh)->aR->Prop}{YP:bJ->aR->Prop}{d:DefRec}{K:Params->Yb}(hn:l.most=Ya 63)(hdf:d.params.defaults=[])(hr:d9 k vV)(hY:∀(w:bJ) (h:aR),YP w h->(K w.params).In h)(G:∀(w:bJ) (mg:aj->Option Yh) (fa:Y4) (h:aR),(K w.params).In h->h.Ns Yx mg->mg d.name=Ya (.ref fa) ->
   ∃fd:lU,(∀(s:Yl) (u:Yh),Aq s fd ⟨[u],[]⟩ [("script",u)])/\∀base:aR,(K w.params).In base->base.Ns Yx mg->jO l.prog w (K w.params) mg base mU k fa fd ["script"] (uR (K w.params) 1 F))(hF:∀ns:List Int,ns.length<=63->∃M',F [.bD (ns.map D.int)] []= .ok (.bl true) M'):
  Z4 q loose XP YP l.row.toRowW d [] (λf vs=>QR f vs):=
 _L2.ZpD (n:=63) (k:=k) (x:="script") (CX:=λ_=>mU) (sp:=λw=>uR (K w.params) 1 F) hn (by decide) hdf hr hY G (λw H a ns hl hO hS=>by
  obtain⟨M',e⟩:=hF ns hl;refine⟨[],[],[.bD (ns.map D.int)],⟨rfl,Jt,λn o a h=>by simp at h⟩,au.cons ?_ au.nil,rfl,?_⟩
  .refine⟨a,ns.map V.int,rfl,?_,au.ints ns⟩;rcases hS with(h|⟨o,h⟩)|h
   .rcases hO a with z|⟨ob,xs,z⟩
    .rw[h]at z;cases z
    .rw[h]at z;cases z
   .exact .inl ⟨o,h⟩
   .exact .inr h
  .rw[e]
   exactλv H' ι' _ _ r=>r.gY) λ_ _ _ _ _ z=>z
theorem Uv{a b:g8}(h:dk a=dk b):a=b:=by
 cases a with
 |inl i=>cases b with
  |inl j=>simp only[dk,Sum.inl.injEq]at h;rw[h]|inr y=>simp[dk]at h
 | inr x=>cases b with
  |inl j=>simp[dk]at h|inr y=>simp only[dk,Sum.inr.injEq,Str.mk.injEq]at h;have:=congrArg Bh h;simp at this;rw[this]
variable{kvs:List (g8×D)}{ws:List (Key×V)}
section
variable {K:Yb} {H H':Hp} {ι ι':List Y4} {M:Store} {p:Y4}
theorem dN.nil:dN K H ι [] []:=⟨rfl,au.nil⟩
theorem dN.cons{k:g8}{d:D}{v:V}{kvs:List (g8×D)}{ws:List (Key×V)}(h:Rep K H ι d v)(r:dN K H ι kvs ws):dN K H ι ((k,d)::kvs) ((dk k,v)::ws):=⟨by simp[r.1],au.cons h r.2⟩
theorem dN.cons_inv{q:g8×D}(r:dN K H ι (q::kvs) ws):∃v ws',ws=(dk q.1,v)::ws'/\Rep K H ι q.2 v/\dN K H ι kvs ws':=by
 obtain⟨h1,h2⟩:=r;cases ws with
 |nil=>simp at h1|cons w ws=>simp only[Ys,Yma]at h1;obtain⟨v,us,e,r1,r2⟩:=au.cons_inv h2;simp only[Ys,Yma]at e;exact⟨w.2,ws,by rw[←h1.1],e.1▸r1,h1.2,e.2▸r2⟩
theorem dN.nil_inv(r:dN K H ι [] ws):ws=[]:=by simpa using r.1
theorem dN.mono(r:dN K H ι kvs ws)(e:Ext K H ι H' ι'):dN K H' ι' kvs ws:=⟨r.1,r.2.mono e⟩
theorem dN.length(r:dN K H ι kvs ws):ws.length=kvs.length:=by have:=congrArg ud r.1;simpa using this
theorem dN.val(k:g8):∀{ws:List (Key×V)},dN K H ι kvs ws->match Gw kvs k with|some d=>∃v,mV ws (dk k)=Ya v/\Rep K H ι d v|none=>mV ws (dk k)=Ym:=by
 induction kvs with
 |nil=>intro ws r;rw[r.nil_inv];exact Zrw|cons q kvs ih=>
  intro ws r;obtain⟨v,ws',rfl,r1,r2⟩:=r.cons_inv;obtain⟨k',d⟩:=q;unfold Gw;by_cases e:k'=k
  .rw[if_pos e];exact⟨v,KZ (by rw[e]),r1⟩
  .rw[if_neg e,K7 λz=>e (Uv z)];exact ih r2
theorem dN.append{k1 k2:List (g8×D)}{w1 w2:List (Key×V)}(a:dN K H ι k1 w1)(b:dN K H ι k2 w2):dN K H ι (k1++k2) (w1++w2):=⟨by simp[a.1,b.1],by rw[jl,jl];exact a.2.append b.2⟩
theorem dN.any(k:g8):∀{ws:List (Key×V)},dN K H ι kvs ws->(ws.any λkv=>decide (kv.1=dk k))=(kvs.any λq=>decide (q.1=k)):=by
 induction kvs with
 |nil=>intro ws r;rw[r.nil_inv];rfl|cons q kvs ih=>
  intro ws r;obtain⟨v,ws',rfl,r1,r2⟩:=r.cons_inv;rw[lR,lR,ih r2];congr 1;by_cases e:q.1=k
  .simp[e]
  .simp[e];exactλz=>e (Uv z)
theorem dN.put{k:g8}(r:dN K H ι kvs ws)(rd:Rep K H ι d v):dN K H ι (putD k d kvs) (putK ws (dk k) v):=by
 unfold putD putK;rw[r.any k];by_cases c:(kvs.any λq=>decide (q.1=k))=true
 .rw[if_pos c,if_pos c];clear c
  induction kvs generalizing ws with
  |nil=>rw[r.nil_inv];exact dN.nil|cons q kvs ih=>
   obtain⟨u,ws',rfl,r1,r2⟩:=r.cons_inv;rw[Ys,Ys];by_cases e:q.1=k
   .rw[if_pos e,if_pos (by rw[e])];exact dN.cons rd (ih r2)
   .rw[if_neg e,if_neg λz=>e (Uv z)];exact dN.cons r1 (ih r2)
 .rw[if_neg c,if_neg c];exact r.append (dN.cons rd dN.nil)
theorem aH.dct(S:aH K H ι M)(hp:H p=Ym)(r:dN K H ι kvs ws):Ext K H ι (upd H p (.dK ws)) (ι++[p])/\aH K (upd H p (.dK ws)) (ι++[p]) (M++[.dct kvs])/\Rep K (upd H p (.dK ws)) (ι++[p]) (.ref M.length) (.ref p):=by have e:Ext K H ι (upd H p (.dK ws)) (ι++[p]):=Loose.I_ (.inl hp);exact⟨e,S.new hp ⟨ws,qN,r.mono e⟩,Rep.ref (by rw[←S.len];simp)⟩
end
section
variable {X:Cx} {a b c e o:Expr} {es:List Expr} {pos p pos' apos cpos:aZ} {f g h:E3} {gl:eQ}
def Uw(K:Yb)(H:Hp)(ι:List Y4)(Q:List (V×V)->Hp->Prop)(r:R3 (List (g8×D))):Prop:=match r with
 | .ok l M'=>∀ws H' ι',Ext K H ι H' ι'->aH K H' ι' M'->dN K H' ι' l ws->Q (ws.map λkv=>(kV kv.1,kv.2)) H'|_=>False
theorem Uw.bind{Q:List (V×V)->Hp->Prop}{r:R3 α}{k:α->Store->R3 (List (g8×D))}(h:Uw K H ι Q (r.bind k)):∃a M,r= .ok a M/\Uw K H ι Q (k a M):=by
 cases r with
 |ok a M=>exact⟨a,M,rfl,h⟩|exc x M=>exact h.elim|bad=>exact h.elim
theorem hu1(hu:X.A.units+80<jL):X.A.units+1<jL:=lB 1 7331617893452817 T1 hu
theorem Ztj{op:D->D->D->Store->R3 D}{Q:VK}(h':Zv K H ι Q (e3 op f g h env M)):
  ∃a M1 b M2 c M3,f env M= .ok a M1/\g env M1= .ok b M2/\h env M2= .ok c M3/\Zv K H ι Q (op a b c M3):=by
 obtain⟨a,M1,e1,h'⟩:=Zv.bind h';obtain⟨b,M2,e2,h'⟩:=Zv.bind h';obtain⟨c,M3,e3,h'⟩:=Zv.bind h';exact⟨a,M1,b,M2,c,M3,e1,e2,e3,h'⟩
theorem ZmD{D':Ends}(E:cO K H ι env σ)(h':p_ K H ι D' (aU f env M)):Zv K H ι (λ_ H'=>D'.nx σ H') (f env M):=by
 unfold aU at h';cases q:f env M with
 |ok d M1=>rw[q]at h';exactλv H1 ι1 x1 S1 r1=>h' σ H1 ι1 x1 S1 (E.mono x1)|exc x M1=>rw[q]at h';exact h'.elim|bad=>rw[q]at h';exact h'.elim
theorem Ux{i:Expr}{spos:aZ}(ho:C3 X o f)(hi:C3 X i g)(hv:C3 X e h)(ha:∀v,jK (.Subscript o i spos) X.env v=(do
   let ov ←vU [v] (aM o X.env)
   let iv ←vU [v,ov] (aM i X.env)
   Fv spos
   vU [v,ov,iv] (setItem ov iv v)
   release [v,ov,iv] []):=by intro _;rfl)(hs:autoParam (QB [.Subscript o i spos] e pos.line X.env=pure false) qA)(hw:autoParam (QC [.Subscript o i spos] e X.env=pure Ym) qA)(h1:autoParam ((jJ [.Subscript o i spos] X.env).map (·.2)=[jK (.Subscript o i spos) X.env]) qA):CS X (.Assign [.Subscript o i spos] e pos) (sV f g h):=(Zrt hv (ZuR ho hi set_list ha) hs hw h1).imp λD' σ H ak=>by
 obtain⟨ι,M,env,S,E,hh⟩:=ak;obtain⟨d,M1,b,M2,k,M3,e1,e2,e3,hh⟩:=Ztj (ZmD E hh);refine⟨ι,M,env,S,E,?_⟩;rw[e1];intro v H1 ι1 x1 S1 r1;refine⟨ι1,M1,env,S1,E.mono x1,?_⟩;rw[e2];intro x H2 ι2 x2 S2 r2;refine⟨ι2,M2,env,S2,(E.mono x1).mono x2,?_⟩;rw[e3];intro y H3 ι3 x3 S3 r3;cases b with
 | ref n=>
  cases k with
  | int j=>
   simp only[Zkx]at hh;cases hn:M3[n]? with
   |none=>simp only[hn]at hh;exact hh.elim|some ob=>
    cases ob with
    |dct _=>simp only[hn]at hh;exact hh.elim|cV _=>simp only[hn]at hh;exact hh.elim|ins _ _=>simp only[hn]at hh;exact hh.elim|lst xs=>
     simp only[hn]at hh;cases hj:lW xs.length j with
     |none=>simp only[hj]at hh;exact hh.elim|some q=>simp only[hj]at hh;obtain⟨ad,ha,rfl⟩:=(r2.mono x3).dX;obtain⟨ws,hw,kr⟩:=S3.obj n _ ad hn ha;obtain⟨x4,S4⟩:=S3.vD (.inr (.inl ⟨_,hw⟩)) ha (kr.set q ((r1.mono x2).mono x3));exact⟨ad,ws,j,q,rfl,r3.int_inv,hw,by rw[kr.length];exact hj,hh .non _ _ (((x1.trans x2).trans x3).trans x4) S4 Rep.non⟩
  |_=>exact hh.elim
 |_=>exact hh.elim
end
section
variable {X:Cx} {a b c e o:Expr} {es:List Expr} {pos p apos cpos:aZ} {f g h:E3} {gl:eQ}
theorem ZxN:dB X (.type "int") (rB X.K GF):=dB.imp Zqa λxs H Q ak=>by
 obtain⟨ι,M,ds,S,rd,h⟩:=ak;cases ds with
 |nil=>exact h.elim|cons d ds=>
  cases ds with
  |cons _ _=>cases d<;>exact h.elim|nil=>
   obtain⟨x,rfl,r⟩:=zb rd;cases d with
   |int i=>exact .inl ⟨i,by rw[r.int_inv],Zv.ok h S Rep.int⟩|bl k=>exact .inr ⟨k,by rw[r.gY],Zv.ok h S Rep.int⟩|_=>exact h.elim
theorem Zk0{K:Yb}{H:Hp}{ι:List Y4}:∀{x:List D} {ns:List Int} {vs:List V} {us:List Yh},mY x=Ya ns->au K H ι x vs->Vals vs us->IntsAre us ns
 |[],ns,vs,us,h,r,v=>by
  have e:=r.nil_inv;subst e;cases v;have:ns=[]:=by simpa[mY]using h.symm
  subst this;exact .nil
 | .int i::x,ns,vs,us,h,r,v=>by
  obtain⟨u,vs',rfl,r1,r2⟩:=r.cons_inv;have e:=r1.int_inv;subst e;cases v with
  | @cons _ z _ us' rz Uy=>
  obtain⟨t,rfl⟩:=rz;simp only[mY]at h;cases hx:mY x with
  |none=>rw[hx]at h;cases h|some ms=>
   rw[hx]at h;have:ns=i::ms:=by simpa using h.symm
   subst this;exact .cons i t (Zk0 hx r2 Uy)
 | .non::_,_,_,_,h,_,_=>by simp[mY]at h|.bl _::_,_,_,_,h,_,_=>by simp[mY]at h|.str _::_,_,_,_,h,_,_=>by simp[mY]at h|.tup _::_,_,_,_,h,_,_=>by simp[mY]at h
 | .bD _::_,_,_,_,h,_,_=>by simp[mY]at h|.ref _::_,_,_,_,h,_,_=>by simp[mY]at h
end
theorem Mi{sts:List Yep}:qd X sts qU:=λ_ _ _ _ _ _ ⟨_,_,_,_,_,h⟩=>h.elim
section
variable {X:Cx} {o e:Expr} {es:List Expr} {apos cpos:aZ} {f:E3} {gl:eQ}
theorem au.erase:∀{ds:List D} {vs:List V} (i:Nat),au K H ι ds vs->au K H ι (ds.eraseIdx i) (vs.eraseIdx i)
 |[],_,_,h=>by rw[h.nil_inv];exact au.nil|d::ds,_,0,h=>by obtain⟨v,us,rfl,r,t⟩:=h.cons_inv;exact t|d::ds,_,i+1,h=>by obtain⟨v,us,rfl,r,t⟩:=h.cons_inv;exact au.cons r (t.erase i)
theorem au.dropLast(r:au K H ι ds vs):au K H ι ds.dropLast vs.dropLast:=by rw[Yio,Yio,r.length];exact r.take _
theorem Zxy:k_ X "list.pop" (rM X.K pY):=k_.imp (r:=λx xs H Q=>ZrT x xs H Q\/Zx5 x xs H Q) (λpins s σ H x xs v us Q I rx rs q=>q.elim (Zrg pins s σ H x xs v us Q I rx rs) (ZvI pins s σ H x xs v us Q I rx rs)) λx xs H Q ak=>by
 obtain⟨ι,M,a,ds,S,ra,rd,h⟩:=ak;cases a with
 | ref n=>
  cases ds with
  | nil=>
   simp only[Zo4,Tv]at h;cases hn:M[n]? with
   |none=>simp only[hn]at h;exact h.elim|some ob=>
    cases ob with
    |dct _=>simp only[hn]at h;exact h.elim|cV _=>simp only[hn]at h;exact h.elim|ins _ _=>simp only[hn]at h;exact h.elim|lst z=>
     simp only[hn]at h;cases hx:z[z.length-1]? with
     |none=>simp only[hx]at h;exact h.elim|some d=>simp only[hx]at h;obtain⟨p,hp,rfl⟩:=ra.dX;have:=rd.nil_inv;subst this;obtain⟨vs,e,rv⟩:=S.obj n _ p hn hp;obtain⟨y,hy,ry⟩:=rv.get hx;obtain⟨x2,S2⟩:=S.vD (.inr (.inl ⟨_,e⟩)) hp rv.dropLast;exact .inr ⟨p,vs,y,rfl,rfl,e,by rw[rv.length];exact hy,h _ _ _ x2 S2 (ry.mono x2)⟩
  | cons d ds=>
   cases ds with
   |cons _ _=>cases d<;>exact h.elim|nil=>
    cases d with
    | int i=>
     simp only[Zo4,Tv]at h;cases hn:M[n]? with
     |none=>simp only[hn]at h;exact h.elim|some ob=>
      cases ob with
      |dct _=>simp only[hn]at h;exact h.elim|cV _=>simp only[hn]at h;exact h.elim|ins _ _=>simp only[hn]at h;exact h.elim|lst z=>
       simp only[hn]at h;by_cases hb:-1000000<=i/\i<=1000000
       .rw[if_pos hb]at h;cases hk:lW z.length i with
        |none=>simp only[hk]at h;exact h.elim|some k=>
         simp only[hk]at h;cases hx:z[k]? with
         |none=>simp only[hx]at h;exact h.elim|some d=>simp only[hx]at h;obtain⟨p,hp,rfl⟩:=ra.dX;obtain⟨v,ws,rfl,r1,r2⟩:=rd.cons_inv;have:=r2.nil_inv;subst this;have:=r1.int_inv;subst this;obtain⟨vs,e,rv⟩:=S.obj n _ p hn hp;obtain⟨y,hy,ry⟩:=rv.get hx;obtain⟨x2,S2⟩:=S.vD (.inr (.inl ⟨_,e⟩)) hp (rv.erase k);obtain⟨q1,q2,q3,q4⟩:=SM (n:=z.length) (i:=i) (j:=k) hk;exact .inl ⟨p,vs,i,k,y,rfl,rfl,e,by omega,by omega,by rw[rv.length];exact q1,hy,h _ _ _ x2 S2 (ry.mono x2)⟩
       .rw[if_neg hb]at h;exact h.elim
    |_=>exact h.elim
 |_=>cases ds<;>exact h.elim
end
section
variable {X:Cx} {a b c e o:Expr} {es:List Expr} {pos p apos cpos:aZ} {f g h:E3} {gl:eQ}
theorem ZpO:dB X (.type "str") (λxs H Q=>(∃i,xs=[.int i]/\i.natAbs.log2<1920/\Q (.str (FZ i)) H)\/∃x,xs=[.str x]/\Q (.str x) H):=by
 intro pins s σ H xs us Q I r h;rcases h with h|⟨x,rfl,q⟩
 .exact ZlX pins s σ H xs us Q I r h
 .obtain⟨u,rfl,t,rfl⟩:=vals1 r;exact PySem.P.str_of_str ⟨.str x,H,I,⟨t,rfl⟩,q⟩
theorem ZuQ:dB X (.type "str") (rB X.K tu):=dB.imp ZpO λxs H Q ak=>by
 obtain⟨ι,M,ds,S,rd,h⟩:=ak;cases ds with
 |nil=>exact h.elim|cons d ds=>
  cases ds with
  |cons _ _=>cases d<;>exact h.elim|nil=>
   obtain⟨x,rfl,r⟩:=zb rd;cases d with
   | int i=>
    simp only[ZoZ,Zuh]at h;split at h
    .rename_i hz;refine .inl ⟨i,by rw[r.int_inv],hz,Zv.ok h S ?_⟩;have:=Rep.str (K:=X.K) (H:=H) (ι:=ι) (x:=gF i);exact this
    .exact h.elim
   |str z=>exact .inr ⟨_,by rw[r.str_inv],Zv.ok h S Rep.str⟩|_=>exact h.elim
theorem Mj{K:Yb}{H:Hp}{ι:List Y4}:∀{x:List D} {ts:List (List Nat)} {vs:List V} {us:List Yh},iI x=Ya ts->au K H ι x vs->Vals vs us->∃l:List (aj×gw),us=mG l/\l.map (·.1)=ts.map λt=>(⟨t.toArray⟩:aj)
 |[],ns,vs,us,h,r,v=>by
  have e:=r.nil_inv;subst e;cases v;have:ns=[]:=by simpa[iI]using h.symm
  subst this;exact⟨[],rfl,rfl⟩
 | .str i::x,ns,vs,us,h,r,v=>by
  obtain⟨u,vs',rfl,r1,r2⟩:=r.cons_inv;have e:=r1.str_inv;subst e;cases v with
  | @cons _ z _ us' rz Uy=>
  obtain⟨t,rfl⟩:=rz;simp only[iI]at h;cases hx:iI x with
  |none=>rw[hx]at h;cases h|some ms=>
   rw[hx]at h;have:ns=i::ms:=by simpa using h.symm
   subst this;obtain⟨l,rfl,e⟩:=Mj hx r2 Uy;exact⟨(_,t)::l,rfl,by simp[e]⟩
 | .non::_,_,_,_,h,_,_=>by simp[iI]at h|.bl _::_,_,_,_,h,_,_=>by simp[iI]at h|.int _::_,_,_,_,h,_,_=>by simp[iI]at h|.tup _::_,_,_,_,h,_,_=>by simp[iI]at h
 | .bD _::_,_,_,_,h,_,_=>by simp[iI]at h|.ref _::_,_,_,_,h,_,_=>by simp[iI]at h
theorem Ml(sep:List Nat):∀ts:List (List Nat),Str.join (⟨sep.toArray⟩:aj) (ts.map λt=>(⟨t.toArray⟩:aj))=⟨(glue sep ts).toArray⟩
 |[]=>rfl|[x]=>rfl|x::y::xs=>by have ih:=Ml sep (y::xs);simp only[Ys]at ih ⊢;simp only[Str.join,glue]at ih ⊢;rw[ih];show(⟨(x.toArray++sep.toArray)++(glue sep (y::xs)).toArray⟩:aj)=_;simp
theorem ZsL{sep:List Nat}{ts:List (List Nat)}(h:lG sep ts<=SZ):JoinOk (⟨sep.toArray⟩:aj) (ts.map λt=>(⟨t.toArray⟩:aj))=true:=by
 have gen:∀(ts:List (List Nat)) (k:Nat),Ju (λx1 (x2:aj)=>x1+x2.length+(⟨sep.toArray⟩:aj).length) k (ts.map λt=>(⟨t.toArray⟩:aj))=k+lG sep ts:=by
  intro ts
  induction ts with
  |nil=>intro k;simp[lG]|cons t ts ih=>intro k;simp only[Ys,jG,ih];simp[lG,mK];exact Y1 (lD 0 0x321cc0c3210ccc0 T1) (lD 0 0x3210ccc321cc0c0 T1)
 unfold JoinOk Yju;rw[List.foldl_toArray,gen];have:bG>=SZ:=kj;simp only[v7,Yky,decide_eq_false_iff_not];exactλz=>lC 3 0x6210102011011 T1 z this h
theorem Zv2:k_ X "str.join" (rM X.K uJ):=by
 intro pins s σ H x xs v us Q I rx rs h;obtain⟨ι,M,a,ds,S,ra,rd,h⟩:=h;cases a with
 | str sep=>
  cases ds with
  |nil=>exact h.elim|cons d ds=>
   cases ds with
   |cons _ _=>cases d<;>exact h.elim|nil=>
    cases d with
    | ref n=>
     simp only[Zmz]at h;cases hn:M[n]? with
     |none=>simp only[hn]at h;exact h.elim|some ob=>
      cases ob with
      |dct _=>simp only[hn]at h;exact h.elim|cV _=>simp only[hn]at h;exact h.elim|ins _ _=>simp only[hn]at h;exact h.elim|lst z=>
       simp only[hn]at h;cases hs:iI z with
       |none=>simp only[hs]at h;exact h.elim|some ts=>
        simp only[hs]at h;split at h
        .rename_i hz;have:=ra.str_inv;subst this;obtain⟨w',ws,rfl,r1,r2⟩:=rd.cons_inv;have:=r2.nil_inv;subst this;obtain⟨p,hp,rfl⟩:=r1.dX;obtain⟨t,rfl⟩:=rx;obtain⟨u,rfl,ru⟩:=vals1 rs;cases ru;obtain⟨vs,e,rv⟩:=S.obj n _ p hn hp;obtain⟨its,rr,pl,zl⟩:=I.list (bM.of e);obtain⟨l,rfl,el⟩:=Mj hs rv rr;refine SC.join pl.isList el (ZsL hz) λt' k=>⟨.str _,H,I.tok _,⟨t',rfl⟩,?_⟩;rw[Txt.join,Yip,Ml];exact Zv.ok h S Rep.str
        .exact h.elim
    |_=>exact h.elim
 |_=>exact h.elim
theorem Mm(ho:C3 X o f)(ha:CA X (e::es) gl)(hbase:autoParam (nQ o "join" X.env (aM o X.env)=aM o X.env) qA)(hfew:((cN cpos (Yz (e::es) X.env)).all (λx=>!x.1)&&(jc cpos (i_ [] X.env)).all (λx=>x.1.isSome)
   &&decide ((e::es).length+([]:List Keyword).length+(if([]:List Keyword).isEmpty then 0 else 1)<30))=true:=by rfl)(hline:autoParam ((apos.endLine==cpos.line)=true) qA)(hs:autoParam (Yz (e::es) X.env=(false,aM e X.env)::Yz es X.env) qA)(hplain:autoParam ((cN cpos (Yz es X.env)).any (·.1)=false) qA):
  C3 X (.Call (.Attribute o "join" apos) (e::es) [] cpos) (aG fM uJ f gl):=
 (Bu J7 Rn Yiq Zv2 ho ha hbase hfew hline hs hplain).imp (Cm Mh)
end
section
variable {X:Cx} {a b c e o:Expr} {es:List Expr} {pos p apos cpos:aZ} {f g h:E3} {gl:eQ}
theorem Zql{t:gw}{y:aj}{u:gw}(hy:(y.length==0)=false)(hz:x.length+2<=bG)(h:∀(l:List (aj×gw)) (k:Nat),l.map (·.1)=Txt.split x y->l.length<=x.length+2->Q (.ref s.heap.objs.size) {s with heap:=s.heap.push {cls:=.type "list",data:=.seq (mG l).toArray},toks:=k}):
  ao (aB prog w) A (call (.builtin "str.split") [.str x t,.str y u]) Q E s:=by
 have e1:=StrLaws.occ_length_le x y 0 x.length (x.length+1);have e2:=length_partsBetween x (Bg x y 0 x.length (x.length+1)) y.length;have hn:(Yha x (Bg x y 0 x.length (x.length+1)) y.length).length<=bG:=lD 3 0x300321b2c01a2c101a1c021 T1 e2 e1 hz;cases h1:(decide (x.length<y.length)|| decide (Yjv x<Yjv y))with
 | true=>
  exact qG Rr (yd s x t) Rq (Rp (.str x t) (.str y u)) (meets_str_split_cannot_occur x y t u h1)
   (h [(x,t)] s.toks (if_pos h1).symm (by simp))
 | false=>
  cases hf:(Bg x y 0 x.length (x.length+1)).isEmpty with
  | true=>
   exact qG Rr (yd s x t) Rq (Rp (.str x t) (.str y u)) (meets_str_split_not_found x y t u h1 hy hf)
    (h [(x,t)] s.toks ((if_neg (ne_true_of_eq_false h1)).trans (if_pos hf)).symm (by simp))
  |false=>refine qG Rr (yd s x t) Rq (Rp (.str x t) (.str y u)) (meets_str_split_sep x y t u h1 hy hf (lB 1 1099815390209 T1 hz) hn) ?_;rw[strsFrom_eq];refine h (numbered s.toks _) _ ((numbered_texts s.toks _).trans ((if_neg (ne_true_of_eq_false h1)).trans (if_neg (ne_true_of_eq_false hf))).symm) ?_;have e3:=congrArg ud (numbered_texts s.toks (Yha x (Bg x y 0 x.length (x.length+1)) y.length));rw[Yu]at e3;exact lD 3 0x21b3c00a3c201a2c1211021 T1 e3 e2 e1
theorem Zko:dB X (.type "int") (λxs H Q=>∃x n,xs=[.str x]/\intText? x=Ya n/\x.length<=640/\Q (.int n) H):=by intro pins s σ H xs us Q I r h;obtain⟨x,n,rfl,hn,hz,q⟩:=h;obtain⟨u,rfl,t,rfl⟩:=vals1 r;exact PySem.W.KIN.call_text hn hz ⟨.int n,H,I.tok _,⟨_,rfl⟩,q⟩
theorem Zv6:dB X (.type "int") (rB X.K uK):=dB.imp (dB.or ZxN Zko) λxs H Q ak=>by
 obtain⟨ι,M,ds,S,rd,h⟩:=ak
 match ds,rd,h with
 | [.str x],rd,h=>
  obtain⟨v,rfl,r⟩:=zb rd;simp only[ZrP,ZqP]at h;cases hn:Jz ⟨x.toArray⟩with
  |none=>rw[hn]at h;exact h.elim|some n=>
   rw[hn]at h;dsimp only at h;split at h
   .rename_i hz;exact .inr ⟨_,n,by rw[r.str_inv],hn,by simpa[mK]using hz,Zv.ok h S Rep.int⟩
   .exact h.elim
 |[],rd,h=>exact h.elim|[.int i],rd,h=>exact .inl ⟨ι,M,_,S,rd,h⟩|[.bl i],rd,h=>exact .inl ⟨ι,M,_,S,rd,h⟩|[.non],rd,h=>exact h.elim
 |[.tup _],rd,h=>exact h.elim|[.bD _],rd,h=>exact h.elim|[.ref _],rd,h=>exact h.elim|.str _::_::_,rd,h=>exact h.elim
 | .int _::_::_,rd,h=>exact h.elim|.bl _::_::_,rd,h=>exact h.elim|.non::_::_,rd,h=>exact h.elim|.tup _::_::_,rd,h=>exact h.elim
 | .bD _::_::_,rd,h=>exact h.elim|.ref _::_::_,rd,h=>exact h.elim
theorem Uz{K:Yb}{H:Hp}{ι:List Y4}:∀(l:List (aj×gw)),Vals (l.map λp=>V.str p.1) (mG l)/\au K H ι ((l.map λp=>p.1.cps.toList).map D.str) (l.map λp=>V.str p.1)
 |[]=>⟨.nil,au.nil⟩|p::l=>⟨.cons ⟨p.2,rfl⟩ (Uz (K:=K) (H:=H) (ι:=ι) l).1,au.cons (Rep.str (x:=p.1.cps.toList)) (Uz l).2⟩
theorem m_split:k_ X "str.split" (rM X.K p7):=by
 intro pins s σ H x xs v us Q I rx rs h;obtain⟨ι,M,a,ds,S,ra,rd,h⟩:=h;cases a with
 | str z=>
  cases ds with
  |nil=>exact h.elim|cons d ds=>
   cases ds with
   |cons _ _=>cases d<;>exact h.elim|nil=>
    cases d with
    | str y=>
     simp only[ZkN]at h;split at h
     .rename_i hz;have:=ra.str_inv;subst this;obtain⟨w',ws,rfl,r1,r2⟩:=rd.cons_inv;have:=r2.nil_inv;subst this;have:=r1.str_inv;subst this;obtain⟨t,rfl⟩:=rx;obtain⟨u,rfl,ru⟩:=vals1 rs;obtain⟨t',rfl⟩:=ru;have zl:=kj;refine Zql ?_ ?_ λl k hl hn=>?_
      .have:=hz.1;simp[mK];intro e;subst e;simp at this
      .simp only[mK,Yq];exact Yi hz.2 zl
      .have hq:=I.fresh;obtain⟨v1,r'⟩:=Uz (K:=X.K) (H:=H) (ι:=ι) l;have e1:(l.map λp=>p.1.cps.toList)=o_ z y:=by
        rw[o_,←hl,jH];rfl
       rw[e1]at r';obtain⟨x2,S2,r2⟩:=S.lst hq r';refine⟨.ref s.heap.objs.size,_,I.laid (λb o' e=>Yn _ e) (Yt _) (show gZ X.prog X.w _ _ _ (.lst (l.map λp=>V.str p.1))from⟨?_,mG l,_,v1,Y5 _ rfl⟩),rfl,h _ _ _ x2 S2 r2⟩;simp only[Yu,mK,Yq]at hn ⊢;exact lD 3 0x300221b1c01320121b1c001 T1 hn zl hz.2
     .exact h.elim
    |_=>exact h.elim
 |_=>exact h.elim
theorem UG(ho:C3 X o f)(ha:CA X (e::es) gl)(hbase:autoParam (nQ o "split" X.env (aM o X.env)=aM o X.env) qA)(hfew:((cN cpos (Yz (e::es) X.env)).all (λx=>!x.1)&&(jc cpos (i_ [] X.env)).all (λx=>x.1.isSome)
   &&decide ((e::es).length+([]:List Keyword).length+(if([]:List Keyword).isEmpty then 0 else 1)<30))=true:=by rfl)(hline:autoParam ((apos.endLine==cpos.line)=true) qA)(hs:autoParam (Yz (e::es) X.env=(false,aM e X.env)::Yz es X.env) qA)(hplain:autoParam ((cN cpos (Yz es X.env)).any (·.1)=false) qA):
  C3 X (.Call (.Attribute o "split" apos) (e::es) [] cpos) (aG fM p7 f gl):=
 (Bu J7 PySem.F.slot_str_split PySem.F.type_str_split m_split ho ha hbase hfew hline hs hplain).imp (Cm Mh)
end
section
variable {X:Cx} {a b c e o:Expr} {es:List Expr} {pos p p1 p2 p3 pt apos cpos:aZ} {f g h:E3} {gl:eQ}
theorem Ztz(K:Yb)(t:String)(T1 T2:o4)(ht:t∈["NoneType","bool","int","str","list","tuple","dict"]):
  PySem.W.kitAny K (.type t) [.type (fY T1),.type (fY T2)]=Ya ((t==fY T1|| (t== "bool" &&fY T1== "int"))|| (t==fY T2|| (t== "bool" &&fY T2== "int"))):=by
 simp only[Yo,qD,or_false]at ht;rcases ht with rfl|rfl|rfl|rfl|rfl|rfl|rfl <;>cases T1<;>cases T2<;>kernel_rfl
theorem Ztm{x:V}(I:Inv X pins σ H s)(S:aH X.K H ι M)(r:Rep X.K H ι d x)(ru:RelV x u)(hd:lu .int d M≠Ym):
  ∃(t:String) (Hc:aR->Prop),PySem.W.KitX X.K u (.type t) Hc/\Hc s.heap/\u≠ .builtin "__main__.__loader__#opaque" /\t∈["NoneType","bool","int","str","list","tuple","dict"]/\∀T b,lu T d M=Ya b->b=(t==fY T|| (t== "bool" &&fY T== "int")):=by
 cases d with
 | non=>
  have:=r.jD;subst this;cases(show u=Value.none from ru);exact⟨"NoneType",_,ZX,True.intro,(λz=>nomatch z),by simp,λT b e=>by
   have hb:b=false:=by simpa  using e.symm
   subst hb;cases T<;>rfl⟩
 | bl c=>
  have:=r.gY;subst this;cases(show u=Value.bool c from ru);exact⟨"bool",_,ZZ,True.intro,(λz=>nomatch z),by simp,λT b e=>by
   have hb:b=(T== .bool|| T== .int):=by simpa  using e.symm
   subst hb;cases T<;>rfl⟩
 | int i=>
  have:=r.int_inv;subst this;obtain⟨t,q⟩:=(show∃t,u=Value.int i t from ru);cases q;exact⟨"int",_,Z1,True.intro,(λz=>nomatch z),by simp,λT b e=>by
   have hb:b=(T== .int):=by simpa  using e.symm
   subst hb;cases T<;>rfl⟩
 | str z=>
  have:=r.str_inv;subst this;obtain⟨t,q⟩:=(show∃t,u=Value.str _ t from ru);cases q;exact⟨"str",_,Z2,True.intro,(λz=>nomatch z),by simp,λT b e=>by
   have hb:b=(T== .str):=by simpa  using e.symm
   subst hb;cases T<;>rfl⟩
 | tup ds=>
  obtain⟨a,vs,rfl,st,rr⟩:=r.ji;cases ru;obtain⟨its,_,pt,_⟩:=I.tuple st;obtain⟨o,h1,h2,_⟩:=pt;exact⟨"tuple",_,PX,⟨o,h1,h2⟩,(λz=>nomatch z),by simp,λT b e=>by
   have hb:b=(T== .tuple):=by simpa  using e.symm
   subst hb;cases T<;>rfl⟩
 |bD ds=>exact absurd (by simp) hd|ref n=>
  simp only[Zo2,Zpx,ZoJ,Zpc,ZoM,Zpr,ZoY]at hd;cases hn:M[n]? with
  |none=>exact absurd (by simp[hn]) hd|some o=>
   obtain⟨a,ha,rfl⟩:=r.dX;cases o with
   | lst z=>
    obtain⟨vs,ev,_⟩:=S.obj n _ a hn ha;cases(show u=Value.ref a from ru);obtain⟨_,_,n',_,h1⟩:=(show gZ X.prog X.w H s.heap a (.lst vs)from I.hok a _ ev);exact⟨"list",_,Qc,⟨_,h1,rfl⟩,(λz=>nomatch z),by simp,λT b e=>by
     have hb:b=(T== .list):=by simpa[hn]using e.symm
     subst hb;cases T<;>rfl⟩
   | dct z=>
    obtain⟨vs,ev,_⟩:=S.obj n _ a hn ha;cases(show u=Value.ref a from ru);obtain⟨_,_,vs',_,q⟩:=(show gZ X.prog X.w H s.heap a (.dK vs)from I.hok a _ ev);obtain⟨o,es,ep,h1,h2,_⟩:=q;exact⟨"dict",_,Qd,⟨o,h1,h2.1⟩,(λz=>nomatch z),by simp,λT b e=>by
     have hb:b=false:=by simpa[hn]using e.symm
     subst hb;cases T<;>rfl⟩
   |cV z=>exact absurd (by simp[hn]) hd|ins _ _=>exact absurd (by simp[hn]) hd
theorem Zo5(T1 T2:o4){y:aj}{k}(hm:X.mg "isinstance" =Ym)(hm1:X.mg x=Ym)(hm2:X.mg y=Ym)(h:C3 X a f)(hx:autoParam (x=(qL (fY T1))) qA)(hy:autoParam (y=(qL (fY T2))) qA)(hg:autoParam (Gl X "isinstance") qA)(hg1:autoParam (Gl X x) qA)(hg2:autoParam (Gl X y) qA)(hn:autoParam (x≠ "__name__") qB)(hd:autoParam ((x==("__debug__":aj))=false) qB)(hn':autoParam (y≠ "__name__") qB)(hd':autoParam ((y==("__debug__":aj))=false) qB)(hs:autoParam (Yz (a::[.Tuple [.Name x p1,.Name y p2] k pt]) X.env=(false,aM a X.env)::Yz [.Tuple [.Name x p1,.Name y p2] k pt] X.env) qA)(hs1:autoParam (Yz (.Tuple [.Name x p1,.Name y p2] k pt::[]) X.env=(false,aM (.Tuple [.Name x p1,.Name y p2] k pt) X.env)::Yz [] X.env) qA)(hs2:autoParam (Yz (.Name x p1::[.Name y p2]) X.env=(false,aM (.Name x p1) X.env)::Yz [.Name y p2] X.env) qA)(hs3:autoParam (Yz (.Name y p2::[]) X.env=(false,aM (.Name y p2) X.env)::Yz [] X.env) qA)(hpl:autoParam ((cN pos (Yz [.Tuple [.Name x p1,.Name y p2] k pt] X.env)).any (·.1)=false) qA):C3 X (.Call (.Name "isinstance" p) [a,.Tuple [.Name x p1,.Name y p2] k pt] [] pos) (e1 (GZ T1 T2) f):=by
 subst hx hy;have hc:dB X (.builtin "isinstance") (λxs H Q=>∃ι M d x q,xs=[x,.ref q]/\H q=Ya (.tup [.ty (fY T1),.ty (fY T2)])/\aH X.K H ι M/\Rep X.K H ι d x/\Zv X.K H ι Q (GZ T1 T2 d M)):=by
  intro pins s σ H xs us Q I r q;obtain⟨ι,M,d,x,tp,rfl,et,S,rd,q⟩:=q;obtain⟨u,w',rfl,ru,lg⟩:=vals2 r;cases lg;unfold GZ at q;cases e1:lu T1 d M with
  |none=>rw[e1]at q;exact q.elim|some b1=>
   cases e2:lu T2 d M with
   |none=>rw[e1,e2]at q;exact q.elim|some b2=>
    rw[e1,e2]at q;have hd:lu .int d M≠Ym:=λz=>by
     cases d with
     |ref n=>
      simp only[Zo2,Zpx,ZoJ,Zpc,ZoM,Zpr,ZoY]at z e1;cases hn:M[n]? with
      |none=>simp[hn]at e1|some o=>cases o<;>simp[hn]at z e1
     |bD _=>simp  at e1|_=>simp  at z
    obtain⟨t,Hc,kx,hh,hl,ht,hb⟩:=Ztm I S rd ru hd;obtain⟨_,its,rt,pt⟩:=(show gZ X.prog X.w H s.heap tp (.tup [.ty (fY T1),.ty (fY T2)])from I.hok tp _ et);obtain⟨v1,v2,rfl,q1,q2⟩:=vals2 rt;cases q1;cases q2;obtain⟨ob,g1,⟨g2,g3⟩,n,g4⟩:=pt;have ho:ob={cls:=.type "tuple",dict:=ob.dict,data:=.seq [.type (fY T1),.type (fY T2)].toArray n,slots:=ob.slots}:=by cases ob;simp only at g2 g4;subst g2 g4;rfl
    rw[ho]at g1;refine PySem.W.kia_tup kx I.fG hh g1 ((Ztz X.K t T1 T2 ht).trans ?_) hl λtk=>⟨.bl (b1|| b2),H,I.tok _,rfl,Zv.ok q S Rep.bl⟩;rw[hb T1 b1 e1,hb T2 b2 e2]
 refine(KN hc hg hm ZgO (wz h (wz (Zq4 (wz (R9 hg1 hm1 (Uu T1) (v:=.ty (fY T1)) rfl hn hd) (wz (R9 hg2 hm2 (Uu T2) (v:=.ty (fY T2)) rfl hn' hd') Gm hs3) hs2)) Gm hs1) hs) (by decide) (by decide) hs hpl).imp λσ H Q ak=>?_;obtain⟨ι,M,env,S,E,h⟩:=ak;obtain⟨d,M1,e1,h⟩:=Zv.bind h;refine⟨ι,M,env,S,E,?_⟩;rw[e1];intro v H1 ι1 x1 S1 r1;refine⟨by simp;exact Yi (by decide) kj,λq hq=>?_⟩;have x2:Ext X.K H1 ι1 (upd H1 q (.tup [.ty (fY T1),.ty (fY T2)])) ι1:=Loose.ext (.inl hq);exact⟨ι1,M1,d,v,q,rfl,qN,S1.other (.inl hq) (S1.fresh hq),r1.mono x2,h.up (x1.trans x2)⟩
end
def Mp(K:Yb)(H:Hp)(ι:List Y4)(it:G4)(J:It):Prop:=∀(i:Nat) H2 ι2 M2,Ext K H ι H2 ι2->aH K H2 ι2 M2->jR it.lk M2=true ->
 (∀d,it.items[i]?=Ya d->J.go i H2/\∀x H3,J.Ky i H2 x H3->Ext K H2 ι2 H3 ι2/\aH K H3 ι2 M2/\Rep K H3 ι2 d x)/\(i=it.items.length->J.stop i H2)
def Cr(K:Yb)(H:Hp)(ι:List Y4)(R:It->Hp->Prop)(r:R3 G4):Prop:=match r with
 | .ok it M'=>∀J H' ι',Ext K H ι H' ι'->aH K H' ι' M'->Mp K H' ι' it J->R J H'|_=>False
def tIL(K:Yb)(g:yP):TI:=λσ H R=>∃ι M env,aH K H ι M/\cO K H ι env σ/\Cr K H ι R (g env M)
def CIL(X:Cx)(tg e:Expr)(g:yP):Prop:=PI X tg e (tIL X.K g)
theorem Cr.bind{Q:It->Hp->Prop}{r:R3 α}{k:α->Store->R3 G4}(h:Cr K H ι Q (r.bind k)):∃a M,r= .ok a M/\Cr K H ι Q (k a M):=by
 cases r with
 |ok a M=>exact⟨a,M,rfl,h⟩|exc x M=>exact h.elim|bad=>exact h.elim
theorem _root_._L2.Inv.Iu{h':aR}{t':Nat}(I:Inv X pins σ H s)(k:∀b o,b∉fp->s.heap.get? b=Ya o->h'.get? b=Ya o)(hf:∀b∈fp,iU X pins H b):
  Inv X pins σ H {s with heap:=h',toks:=t'}:=by
 have Gj:∀b u,H b=Ya u->b∉fp:=λb u e z=>by rw[(hf b z).1]at e;cases e
 refine I.step (g':=s.gens) (d':=s.drawn) (ch:=fp) (λb hb=>⟨(hf b hb).2.2.2.1,(hf b hb).2.1,(hf b hb).2.2.2.2.1,(hf b hb).2.2.2.2.2⟩) (λb o _ _ hc e _=>k b o hc e) (λb o _ _ hc e _=>⟨o.slots,k b o hc e⟩) (λ_ _ _ _ n=>n)
  (λb o hc e=>⟨o,k b o hc e⟩) (λ_ _ e=>e) (λ_ _ _ e=>e) (λb ps e=>⟨#[],by rw[e];simp⟩) (λm hm=>?_) (λb u e=>?_) I.bare
 .obtain⟨o,es,ep,ho,r⟩:=hm;exact⟨o,es,ep,k _ o (λz=>(hf _ z).2.1 rfl) ho,r⟩
 .refine(I.hok b u e).stay (λc v hc q=>k c v ?_ q) (λ_ q=>q) λ_ _ q=>q;rcases hc with z|z
  .rw[z];exact Gj b u e
  .exact Gj c _ z
noncomputable def Ite(S:Hp->List V->Prop):It:=⟨λi H=>∃xs x,S H xs/\xs[i]?=Ya x,λi H x H'=>∃T y,x= .ref T/\H T=Ym/\H'=upd H T (.tup [.int i,y])/\∀xs,S H xs->xs[i]?=Ya y,λi H=>∃xs,S H xs/\xs.length<=i⟩
theorem UJ{h' h'':aR}{e:Y4}{x:V}{tk tk':Nat}(I:Inv X pins σ H s)(hf:∀b∈[e,it],iU X pins H b)(he:e<s.heap.objs.size)(hi:it<s.heap.objs.size)(ru:RelV x u)(hT:h'.get? s.heap.objs.size=Ya {cls:=.type "tuple",data:=.seq #[.int i tk,u]})(hk:∀b o,b≠e->b≠it->s.heap.get? b=Ya o->h'.get? b=Ya o)(hs:A_ e h' h''):
  Inv X pins σ (upd H s.heap.objs.size (.tup [.int i,x])) {s with heap:=h'',toks:=tk'}/\∀b∈[e,it],upd H s.heap.objs.size (.tup [.int i,x]) b=Ym:=by
 have hn:∀b∈[e,it],upd H s.heap.objs.size (.tup [.int i,x]) b=Ym:=λb hb=>by
  have:b≠s.heap.objs.size:=by
   simp only[Yo,qD,or_false]at hb;rcases hb with rfl|rfl
   .exact d8 he
   .exact d8 hi
  rw[gB this];exact(hf b hb).1
 refine⟨?_,hn⟩;have I1:Inv X pins σ (upd H s.heap.objs.size (.tup [.int i,x])) {s with heap:=s.heap.push {cls:=.type "tuple",data:=.seq ([.int i tk,u]:List Yh).toArray},toks:=s.toks}:=I.laid (t':=s.toks) (λb o e=>Yn _ e) (Yt _) (show gZ X.prog X.w _ _ _ (.tup [.int i,x])from⟨by rw[Ao];show 2<=_;decide,[.int i tk,u],.cons ⟨tk,rfl⟩ (.cons ru .nil),sG.new _ _⟩);have I3:=I1.Iu (t':=tk') (h':=h'') (fp:=[e,it]) (λb o hb q=>by
  have hbe:b≠e:=λz=>hb (by simp[z]);have hbi:b≠it:=λz=>hb (by simp[z]);rcases Heap.get?_push_cases q with⟨rfl,rfl⟩|q
  .exact(hs.2 _ (Fz he)).trans hT
  .exact(hs.2 _ hbe).trans (hk b o hbe hbi q)) λb hb=>⟨hn b hb,(hf b hb).2⟩
 exact I3
theorem ZnR{P:bR}{es:List Expr}{k:Nat}{pos:aZ}(a e it:Y4)(hne:e≠it):
  Turn P w K (.Tuple es k pos) (Ite λH xs=>bM K H a xs) [e,it] e (λi h=>(∃old,ye h e it i old)/\h.IsListIter it a i)where
 mem:=by simp
 obj:=λi h st b hb=>by
  obtain⟨⟨old,he⟩,o,ho,c,d⟩:=st;simp only[Yo,qD,or_false]at hb;rcases hb with rfl|rfl
  .exact⟨_,he,λv z=>by cases z⟩
  .exact⟨o,ho,λv z=>by rw[d]at z;cases z⟩
 keep:=λi h h' st k=>by obtain⟨⟨old,he⟩,hit⟩:=st;exact⟨⟨old,k e (by simp) _ he⟩,hit.at λo q=>k it (by simp) o q⟩
 item:=by
  intro X hP hw hK hc i pins s σ H E I hf st hg;subst hP hw hK;obtain⟨xs,x,hq,hx⟩:=hg;obtain⟨its,rv,p,hz⟩:=I.list hq;obtain⟨u,hu,ru⟩:=rv.get hx;obtain⟨⟨old,he⟩,hit⟩:=st;have hel:=Y7 he;have hil:it<s.heap.objs.size:=by obtain⟨o,ho,_⟩:=id hit;exact Y7 ho
  refine wpAny_pyNext_enum_item he hit p.isList (x:=u) (by simpa using hu) hne λh' ho hit' hT hsz hk=>?_;refine⟨_,rfl,Qt (s:={s with heap:=h',toks:=s.toks+1}) ho λh'' Ey hs''=>?_⟩;obtain⟨I2,n2⟩:=UJ (x:=x) (tk':=s.toks+1) I hf hel hil ru hT hk hs'';exact⟨.ref s.heap.objs.size,_,I2,rfl,⟨_,x,rfl,I.hok.fresh (Yt _),rfl,λys hy=>by rw[I.O8 hy hq];exact hx⟩,⟨⟨_,by simpa using Ey⟩,hit'.extBut hs''.extBut (dw hne)⟩,n2⟩
 done:=by intro X hP hw hK hc i pins s σ H E I hf st hg;subst hP hw hK;obtain⟨xs,hq,hx⟩:=hg;obtain⟨its,rv,p,hz⟩:=I.list hq;obtain⟨⟨old,he⟩,hit⟩:=st;have hl:=rv.length;exact wpAny_pyNext_enum_end (I.ok.hd hc) he hit p.isList (by simp;exact lC 2 2268279672881 T1 hl hx) λh' eb=>⟨rfl,I.Iu (t':=s.toks) (λb o hb q=>eb b o (λz=>hb (by simp[z])) q) hf⟩
 self:=λ_ _ _ _ _ st h=>by obtain⟨⟨old,he⟩,_⟩:=st;exact Am he h
theorem boot_enumerate:kY "enumerate" =Ya (.type "enumerate"):=by decide +kernel
open AutoSeq1 (wpAny_loadPart')
set_option maxRecDepth 100000
section
variable {prog:bR} {w:bJ} {A:bW} {E:Yh->Yl->Prop} {s:Yl}
theorem ZhB{it t:Y4}{x:Yh}(hit:s.heap.IsTupleIter it t i)(ht:s.heap.IsTuple t items)(hx:items[i]?=Ya x)(hQ:∀h',h'.IsTupleIter it t (i+1)->A_ it s.heap h'->Q x {s with heap:=h'}):ao (aB prog w) A (J_ (.ref it)) Q E s:=by
 obtain⟨o,ho,hc,hd⟩:=id hit;obtain⟨ol,hol,_,nl,hdl⟩:=ht;unfold J_;refine Yg (xW (name:=qL "__next__") hit.typeIs J6
  (vO J6 hit.typeIs Yja ?_ (Yjw _)))
 show ao _ _ (field (.ref it) 0>>=_) _ _ s;refine Yg (uh ho hd (x:=.ref t) rfl ?_);show ao _ _ (if(Value.ref t==Value.none)=true then _ else _) _ _ s;rw[if_neg (show¬((Value.ref t==Value.none)=true)from mJ)];show ao _ _ (field (.ref it) 1>>=_) _ _ s;refine Yg (uh ho hd (x:=.int i 0) rfl ?_);show ao _ _ (seqItems? (.ref t)>>=_) _ _ s;refine Yg (Fl hol hdl ?_);simp only[su,hx];refine Yg (wpAny_setField ho hd (by simp) (Yv ⟨x,rfl,Yv (hQ _ ?_ (Yjx ..))⟩));exact⟨_,JW _ ho (Obj.isFreed_of_fields (Ykh hd _)),(Obj.cls_mapFields ..).trans hc,by rw[Ykh hd];simp[vY]⟩
theorem Zfe{it t:Y4}(hh:A.handled=Ym)(hit:s.heap.IsTupleIter it t i)(ht:s.heap.IsTuple t items)(hx:items[i]?=Ym)(hE:∀h' e,Q4 it s.heap h'->(∃o,h'.get? e=Ya o/\o.cls= .type "StopIteration")->E (.ref e) {s with heap:=h'}):ao (aB prog w) A (J_ (.ref it)) Q E s:=by
 obtain⟨o,ho,hc,hd⟩:=id hit;obtain⟨ol,hol,_,nl,hdl⟩:=ht;unfold J_;refine Yg (xW (name:=qL "__next__") hit.typeIs J6
  (vO J6 hit.typeIs Yja ?_ (Yjw _)))
 show ao _ _ (field (.ref it) 0>>=_) _ _ s;refine Yg (uh ho hd (x:=.ref t) rfl ?_);show ao _ _ (if(Value.ref t==Value.none)=true then _ else _) _ _ s;rw[if_neg (show¬((Value.ref t==Value.none)=true)from mJ)];show ao _ _ (field (.ref it) 1>>=_) _ _ s;refine Yg (uh ho hd (x:=.int i 0) rfl ?_);show ao _ _ (seqItems? (.ref t)>>=_) _ _ s;refine Yg (Fl hol hdl ?_);simp only[su,hx];refine Yg (JF (Yg (wpAny_setField ho hd (by simp) ?_)));show ao _ _ (newExc (.type "StopIteration") []>>=_) _ _ _;refine Yg ?_;simp only[newExc,newTuple];refine Yg (ug ?_ (by size_fits));refine Yg (m:=firstArgMember _ _) (JC (a:=Value.none) (by first|rfl|(simp only[firstArgMember];rfl)) ?_);refine ug ?_ (by size_fits);simp only[raiseNew];refine Yg (wpAny_handled ?_)
 first|rw[show A.in1.handled=Ym from hh]|rw[hh]
 refine Yg (Yv (wpAny_throw ?_));exact hE _ _ (((Yjx ..).extBut.push _).push _) ⟨_,Y5 _ rfl,rfl⟩
end
theorem Zmq(hh:A.handled=Ym)(it l:Y4)(hne:l≠it)(items:Array Yh):
  Draws prog w A it [it,l] items.size (λi v=>items[i]?=Ya v) (λi h=>h.IsTupleIter it l i/\h.IsTuple l items)where
 live:=λ_ _ st=>let⟨o,ho,_⟩:=st.1;⟨o,ho⟩
 frame:=λ_ _ _ st hk=>⟨st.1.at λo e=>hk it (by simp) o e,st.2.at λo e=>hk l (by simp) o e⟩
 item:=λi s Q E hi st hQ=>by refine ZhB st.1 st.2 (x:=items[i]) (by simp[hi]) λh' hit' hs'=>?_;exact hQ _ h' s.toks (by simp[hi]) ⟨hit',st.2.extBut hs'.extBut hne⟩ hs'
 done:=λs Q E st hE=>Zfe hh st.1 st.2 (by simp) hE
theorem Zgc(l:Y4)(items:Array Yh)(n:Nat)(dct:Option Y4)(sl:Array (Option Yh)):
  Meets (Builtin.«enumerate.__new__» ⟨[.type "enumerate",.ref l],[]⟩) (λ_ R s=>s.heap.get? l=Ya {cls:=.type "tuple",dict:=dct,data:=.seq items n,slots:=sl}/\
   R (.ok (.ret (.ref (s.heap.push {cls:=.type "tuple_iterator",data:=.fields #[.ref l,.int 0 0]}).objs.size)))
    {s with heap:=(s.heap.push {cls:=.type "tuple_iterator",data:=.fields #[.ref l,.int 0 0]}).push {cls:=.type "enumerate",data:=.fields #[.none,.bool false,.ref s.heap.objs.size,vY 0,.none,.none]}}):=
 .of_wp λprog w A R s h=>by
  obtain⟨hp,g,d,tk,os⟩:=s;obtain⟨hl,h⟩:=h;have hsub:=sub_enumerate;have hL:Heap.IsTuple (Shared.heap ⟨hp,g,d,tk,os⟩) l items:=⟨_,hl,rfl,n,rfl⟩
  wp_walk using rW hl
  refine Ymc λst=>Yv ?_;split
  .rename_i c _ _ _ _ _;cases(c==Value.type "enumerate")
   .wp_walk using rW hl,Jx hL
    exact⟨_,rfl,h⟩
   .wp_walk using rW hl,Jx hL
    exact⟨_,rfl,h⟩
  .wp_walk using rW hl,Jx hL
   exact⟨_,rfl,h⟩
theorem Zf9{l:Y4}(hL:s.heap.IsTuple l items)(h:∀h',ye h' (s.heap.objs.size+1) s.heap.objs.size 0 .none->h'.IsTupleIter s.heap.objs.size l 0->h'.objs.size=s.heap.objs.size+2 ->
   (∀b o,s.heap.get? b=Ya o->h'.get? b=Ya o)->Q (.ref (s.heap.objs.size+1)) {s with heap:=h'}):
  ao (aB prog w) A (call (.type "enumerate") [.ref l]) Q E s:=by
 obtain⟨⟨c,dct,dt,sl⟩,hl,hc,n,hd⟩:=hL;replace hc:c= .type "tuple":=hc;replace hd:dt= .seq items n:=hd;subst hc hd;refine callType_new Yki (by decide) (F.typeCall_enumerate_1 _) (F.newCall_enumerate_1 _) (λobj=>F.args_object_init_2 obj _) Yir
  (Zgc l items n dct sl) ⟨hl,?_⟩
 have hz:(s.heap.push {cls:=.type "tuple_iterator",data:=.fields #[.ref l,.int 0 0]}).objs.size=s.heap.objs.size+1:=yg ..;show _/\_;rw[hz];have he:ye ((s.heap.push {cls:=.type "tuple_iterator",data:=.fields #[.ref l,.int 0 0]}).push
   {cls:=.type "enumerate",data:=.fields #[.none,.bool false,.ref s.heap.objs.size,vY 0,.none,.none]}) (s.heap.objs.size+1) s.heap.objs.size 0 .none:=by
  have:=Y5 (s.heap.push {cls:=.type "tuple_iterator",data:=.fields #[.ref l,.int 0 0]})
   (o:={cls:=.type "enumerate",data:=.fields #[.none,.bool false,.ref s.heap.objs.size,vY 0,.none,.none]}) rfl
  rw[hz]at this;exact this
 refine⟨⟨_,he,rfl⟩,h _ he ⟨_,Yn _ (Y5 _ rfl),rfl,rfl⟩ (by rw[yg,hz]) λb o x=>Yn _ (Yn _ x)⟩
theorem ZnS{P:bR}{es:List Expr}{k:Nat}{pos:aZ}(a e it:Y4)(hne:e≠it):
  Turn P w K (.Tuple es k pos) (Ite λH xs=>cW K H a xs) [e,it] e (λi h=>(∃old,ye h e it i old)/\h.IsTupleIter it a i)where
 mem:=by simp
 obj:=λi h st b hb=>by
  obtain⟨⟨old,he⟩,o,ho,c,d⟩:=st;simp only[Yo,qD,or_false]at hb;rcases hb with rfl|rfl
  .exact⟨_,he,λv z=>by cases z⟩
  .exact⟨o,ho,λv z=>by rw[d]at z;cases z⟩
 keep:=λi h h' st k=>by obtain⟨⟨old,he⟩,hit⟩:=st;exact⟨⟨old,k e (by simp) _ he⟩,hit.at λo q=>k it (by simp) o q⟩
 item:=by
  intro X hP hw hK hc i pins s σ H E I hf st hg;subst hP hw hK;obtain⟨xs,x,hq,hx⟩:=hg;obtain⟨its,rv,p,hz⟩:=I.tuple hq;obtain⟨u,hu,ru⟩:=rv.get hx;obtain⟨⟨old,he⟩,hit⟩:=st;have hel:=Y7 he;have hil:it<s.heap.objs.size:=by obtain⟨o,ho,_⟩:=id hit;exact Y7 ho
  have pt:s.heap.IsTuple a its.toArray:=p;have UL:e≠a:=by rintro rfl;obtain⟨o,ho,hc,_⟩:=pt;rw[he]at ho;cases ho;exact absurd hc (by simp)
  have hai:a≠it:=by rintro rfl;obtain⟨o,ho,hc,_⟩:=pt;obtain⟨o',ho',hc',_⟩:=hit;rw[ho']at ho;cases ho;rw[hc']at hc;exact absurd hc (by simp)
  have D:=Zmq (prog:=X.prog) (w:=X.w) (A:=X.A.in1) (I.ok.hd hc) it a hai its.toArray;refine Yhi D he ⟨hit,pt⟩ (by simpa using(Ye.mp hu).1) hne (by simp[hne,UL]) λy h' tk hy ho hst hT hsz hk=>?_;have ey:y=u:=by
   have:its.toArray[i]?=Ya u:=by simpa using hu
   rw[this]at hy;cases hy;rfl
  subst ey;refine⟨_,rfl,Qt (s:={s with heap:=h',toks:=tk+1}) ho λh'' Ey hs''=>?_⟩;obtain⟨I2,n2⟩:=UJ (x:=x) (tk':=tk+1) I hf hel hil ru hT hk hs'';exact⟨.ref s.heap.objs.size,_,I2,rfl,⟨_,x,rfl,I.hok.fresh (Yt _),rfl,λys hy=>by rw[I.O7 hy hq];exact hx⟩,⟨⟨_,by simpa using Ey⟩,hst.1.extBut hs''.extBut (dw hne)⟩,n2⟩
 done:=by
  intro X hP hw hK hc i pins s σ H E I hf st hg;subst hP hw hK;obtain⟨xs,hq,hx⟩:=hg;obtain⟨its,rv,p,hz⟩:=I.tuple hq;obtain⟨⟨old,he⟩,hit⟩:=st;have hl:=rv.length;have pt:s.heap.IsTuple a its.toArray:=p;have hT:s.TypeIs (.ref e) "enumerate":=⟨_,he,rfl⟩;unfold ul;refine Yg (wpAny_attempt (xW (name:=qL "__next__") hT J8
   (vO J8 hT Yh2 ?_ (Yhj _))))
  show ao _ _ (field (.ref e) 2>>=_) _ _ _;refine Yg (uh he rfl (x:=.ref it) rfl ?_);refine Yg (Zfe (I.ok.hd hc) hit pt (by simp;exact lC 2 2268279672881 T1 hl hx) λh' x he' hx'=>?_);obtain⟨o,ho,hc⟩:=hx';refine Yg (Ylr (T:="StopIteration") (b:=true) ⟨o,ho,hc⟩ isSubtype_stop ?_);exact Yv ⟨rfl,I.Iu (t':=s.toks) (λb o hb q=>he' b o (λz=>hb (by simp[z])) q) hf⟩
 self:=λ_ _ _ _ _ st h=>by obtain⟨⟨old,he⟩,_⟩:=st;exact Am he h
section
variable {X:Cx} {es:List Expr} {k:Nat} {a:Expr} {p pos tpos:aZ} {f:E3}
def Zu7(K:Yb)(ta:TA):TI:=λσ H R=>ta σ H λvs H1=>∃b,vs=[.ref b]/\((∃xs,bM K H1 b xs/\R (Ite λH xs=>bM K H b xs) H1)\/∃xs,cW K H1 b xs/\R (Ite λH xs=>cW K H b xs) H1)
theorem Ztu{ta:TA}(hg:Gl X "enumerate")(hm:X.mg "enumerate" =Ym)(ha:PA X [a] ta)(hs:autoParam (Yz [a] X.env=[(false,aM a X.env)]) qA):PI X (.Tuple es k tpos) (.Call (.Name "enumerate" p) [a] [] pos) (Zu7 X.K ta):=by
 intro pins s σ H R I h;refine Call_ (yw I hg hm boot_enumerate (Rc (aJ (ha pos pins s σ H _ I h) λus s1 ⟨vs,H1,I1,r1,q1⟩=>?_) hs rfl));obtain⟨b,e,q⟩:=q1;subst e;cases r1 with
 | cons r rr=>
  cases rr
  cases r
  have fp:∀{h':aR} {s2:Yl},∀c∈[s1.heap.objs.size+1,s1.heap.objs.size],iU X pins H1 c:=λ{h' s2} c hc=>by
   have hc':s1.heap.objs.size<=c:=by simp only[Yo,qD,or_false]at hc;rcases hc with rfl|rfl <;>omega
   exact I1.vB hc' (I1.hok.fresh hc')
  rcases q with⟨xs,hq,q⟩|⟨xs,hq,q⟩
  .obtain⟨its,rv,pl,hz⟩:=I1.list hq;refine call_enumerate_list pl.isList λh' hE hI hsz hk=>?_;have I2:Inv X pins σ H1 {s1 with heap:=h'}:=I1.kept (t':=s1.toks) hk;exact Am (s:={s1 with heap:=h'}) hE ⟨_,[s1.heap.objs.size+1,s1.heap.objs.size],_,_,H1,rfl,I2,ZnR b _ _ (Q0 _),⟨⟨_,hE⟩,hI⟩,fp (h':=h') (s2:=s1),q⟩
  .obtain⟨its,rv,pl,hz⟩:=I1.tuple hq;refine Zf9 (show s1.heap.IsTuple b its.toArray from pl) λh' hE hI hsz hk=>?_;have I2:Inv X pins σ H1 {s1 with heap:=h'}:=I1.kept (t':=s1.toks) hk;exact Am (s:={s1 with heap:=h'}) hE ⟨_,[s1.heap.objs.size+1,s1.heap.objs.size],_,_,H1,rfl,I2,ZnS b _ _ (Q0 _),⟨⟨_,hE⟩,hI⟩,fp (h':=h') (s2:=s1),q⟩
theorem Zpj(hm:X.mg "enumerate" =Ym)(h:C3 X a f)(hg:autoParam (Gl X "enumerate") qA)(hs:autoParam (Yz [a] X.env=[(false,aM a X.env)]) qA)(hs':autoParam (Yz (a::[]) X.env=(false,aM a X.env)::Yz [] X.env) qA):CIL X (.Tuple es k tpos) (.Call (.Name "enumerate" p) [a] [] pos) (TV f):=
 PI.imp (Ztu hg hm (Zc h Ze hs') hs) λσ H R ak=>by
  obtain⟨ι,M,env,S,E,h⟩:=ak;obtain⟨d,M1,e1,h⟩:=Cr.bind h;refine⟨ι,M,env,S,E,?_⟩;have e2:Zb f Zf env M= .ok [d] M1:=by unfold Zb;rw[e1];rfl
  rw[e2];intro vs H1 ι1 x1 S1 r1;obtain⟨v,ws,rfl,r,q⟩:=r1.cons_inv;have:=q.nil_inv;subst this;cases d with
  | tup ds=>
   obtain⟨b,vs,rfl,s,r⟩:=r.ji;refine⟨b,rfl,.inr ⟨vs,s,h _ H1 ι1 x1 S1 ?_⟩⟩;intro i H2 ι2 M2 x S2 _;refine⟨λd hd=>?_,λhl=>⟨vs,x.tup _ _ s,by rw[r.length,hl,Lj];exact Yt _⟩⟩;rw[Li]at hd;cases hq:ds[i]? with
   |none=>rw[hq]at hd;cases hd|some d0=>rw[hq]at hd;simp only[PQ,v7,Ykz]at hd;subst hd;obtain⟨v,hv,rv⟩:=r.get hq;refine⟨⟨vs,v,x.tup _ _ s,hv⟩,λy H3 hy=>?_⟩;obtain⟨T,y',rfl,hT,rfl,hall⟩:=hy;have e:=hall vs (x.tup _ _ s);rw[hv]at e;cases e;exact S2.vC hT (au.cons Rep.int (au.cons (rv.mono x) au.nil))
  | ref n=>
   cases hm:M1[n]? with
   |none=>simp only[hm]at h;exact h.elim|some o=>
    cases o with
    |dct kvs=>simp only[hm]at h;exact h.elim|cV kvs=>simp only[hm]at h;exact h.elim|ins _ _=>simp only[hm]at h;exact h.elim|lst ds=>
     simp only[hm]at h;obtain⟨b,ha,rfl⟩:=r.dX;obtain⟨vs,q,r⟩:=S1.obj n _ b hm ha;refine⟨b,rfl,.inl ⟨vs,bM.of q,h _ H1 ι1 x1 S1 ?_⟩⟩;intro i H2 ι2 M2 x S2 lk;have G9:M2[n]?=Ya (.lst ds):=by simpa[jR]using lk
     obtain⟨vs2,q2,r2⟩:=S2.obj n _ b G9 (x.pre _ _ ha);refine⟨λd hd=>?_,λhl=>⟨vs2,bM.of q2,by rw[r2.length,hl,Lj];exact Yt _⟩⟩;rw[Li]at hd;cases hq:ds[i]? with
     |none=>rw[hq]at hd;cases hd|some d0=>rw[hq]at hd;simp only[PQ,v7,Ykz]at hd;subst hd;obtain⟨v,hv,rv⟩:=r2.get hq;refine⟨⟨vs2,v,bM.of q2,hv⟩,λy H3 hy=>?_⟩;obtain⟨T,y',rfl,hT,rfl,hall⟩:=hy;have e:=hall vs2 (bM.of q2);rw[hv]at e;cases e;exact S2.vC hT (au.cons Rep.int (au.cons rv au.nil))
  |_=>exact h.elim
end
end _L3
namespace _L3
open PySem PySem.Spec PyProof.Rows _L2
section
variable {X:Cx}
noncomputable def Cu:Yh->D
 | .int i _=>.int i|.bool b=>.bl b|.str x _=>.str x.cps.toList|_=>.non
theorem UT{K:Yb}{H:Hp}{ι:List Y4}{d:D}{v:V}{y:Yh}(hf:cJ d=true)(r:Rep K H ι d v)(rv:RelV v y):Cu y=d:=by
 cases d with
 |non=>have:=r.jD;subst this;cases rv;rfl|bl b=>have:=r.gY;subst this;cases rv;rfl|int i=>have:=r.int_inv;subst this;obtain⟨t,rfl⟩:=rv;rfl|str x=>have:=r.str_inv;subst this;obtain⟨t,rfl⟩:=rv;rfl
 |_=>simp[cJ]at hf
theorem UV{K:Yb}{H:Hp}{ι:List Y4}{a:D}:∀{ds:List D} {vs:List V} {its:List Yh},au K H ι ds vs->Vals vs its->ds.all cJ=true->(ds.any λy=>dh y a)=its.any λy=>dh (Cu y) a
 |[],vs,its,r,rv,_=>by have:=r.nil_inv;subst this;cases rv;rfl|d::ds,vs,its,r,rv,hf=>by
  obtain⟨v,ws,rfl,r1,r2⟩:=r.cons_inv;cases rv with
  |cons q rv=>simp only[kW,Y6]at hf;simp only[lR,UV r2 rv hf.2,UT hf.1 r1 q]
theorem Zux:aO X (d7 .In) (r2 X.K q8):=by
 intro pins s σ H x y v u Q I rx ry ⟨ι,M,a,b,S,ra,rb,h⟩;unfold q8 at h;cases b with
 | ref n=>
  cases hn:M[n]? with
  |none=>simp only[hn]at h;exact h.elim|some ob=>
   cases ob with
   |dct _=>simp only[hn]at h;exact h.elim|cV _=>simp only[hn]at h;exact h.elim|ins _ _=>simp only[hn]at h;exact h.elim|lst ds=>
    simp only[hn]at h;by_cases hf:(cJ a&&ds.all cJ)=true
    .rw[if_pos hf]at h;rw[Y6]at hf;obtain⟨p,hp,rfl⟩:=rb.dX;cases ry;obtain⟨vs,e1,r1⟩:=S.obj n _ p hn hp;obtain⟨its,rvs,pl,_⟩:=I.list (bM.of e1);have he:∀y,y∈its.toArray->sy X.A.in1 s y v (dh (Cu y) a):=λy hy=>by
      have hy:y∈its:=by simpa using hy
      obtain⟨j,hj⟩:=Jp hy;have hjl:j<vs.length:=by rw[rvs.length];exact(Ye.mp hj).1
      obtain⟨w,hw,lg⟩:=rvs.get (Y3 hjl);rw[hj]at hw;cases hw;have Hl:j<ds.length:=by rw[←r1.length];exact hjl
      obtain⟨z,hz,rz⟩:=r1.get (Y3 Hl);rw[Y3 hjl]at hz;cases hz;have hfl:=iw.mp hf.2 _ (t8 Hl);rw[UT hfl rz lg];exact Ly X.A.in1 ds[j] a _ x y v hfl hf.1 rz ra lg rx
     refine Yl4 (λy=>dh (Cu y) a) pl.isList he ⟨.bl (ds.any λy=>dh y a),H,I,?_,h _ H ι Ext.refl S Rep.bl⟩;show(.bool _:Yh)= .bool _;rw[UV r1 rvs hf.2];simp
    .rw[if_neg hf]at h;exact h.elim
 |_=>exact h.elim
end
section
variable {prog:bR} {w:bJ} {A:bW} {E:Yh->Yl->Prop} {s:Yl}
theorem Zk8{it t:Y4}{items:Array Yh}(hne:t≠it):∀(n i:Nat) (s:Yl) (Q:List Yh->Yl->Prop),s.heap.IsListIter it t i->s.heap.IsList t items->i+n<=items.size ->
  (∀h',h'.IsListIter it t (i+n)->A_ it s.heap h'->Q ((items.toList.drop i).take n) {s with heap:=h'})->ao (aB prog w) A (draw (.ref it) n) Q E s
 |0,i,s,Q,hit,_,_,hQ=>by show ao _ _ (pure []) Q E s;exact Yv (by simpa using hQ s.heap hit (Heap.SameBut.refl ..))|n+1,i,s,Q,hit,ht,hle,hQ=>by
  have hlt:i<items.size:=lC 1 2204024704001 T1 hle;show ao _ _ (ul (.ref it)>>=_) Q E s;refine Yg (Yhw hit ht (x:=items[i]) (by simp[hlt]) λh₁ Pr Ho=>?_);refine Yg (iD (Zk8 hne n (i+1) _ _ Pr (ht.extBut Ho.extBut hne) (lC 1 0x21a0cc02a1c0c01 T1 hle) λh₂ AbF hs₂=>Yv ?_));have hd:items.toList.drop i=items[i]::items.toList.drop (i+1):=by simp[Ad,hlt]
  have:=hQ h₂ (by rw[show i+(n+1)=i+1+n by exact Y1 (lB 0 1790139547840 T1) (lB 0 0xa1c0c1a0cc0 T1)];exact AbF) (Ho.trans hs₂);rw[hd,Yjz]at this;exact this
theorem Zik{t:Y4}{items:Array Yh}{Q:List Yh->Yl->Prop}(hh:A.handled=Ym)(ht:s.heap.IsList t items)(hQ:∀h',Q4 s.heap.objs.size s.heap h'->Q items.toList {s with heap:=h'}):ao (aB prog w) A (unpackItems (.ref t) items.size Ym) Q E s:=by
 have hlt:t≠s.heap.objs.size:=by obtain⟨o,ho,_⟩:=ht;exact d8 (Y7 ho)
 have hT:s.TypeIs (.ref t) "list":=by obtain⟨o,ho,hc,_⟩:=ht;exact⟨o,ho,hc⟩
 unfold unpackItems;refine Yg ?_
 .unfold notIterableAtAll;refine Yg (Qx hT F.slot_list_iter.lookup ?_);refine Yv ?_;simp only[Ba,if_false];refine Yg (iD (vN ht ?_));have htp:(s.heap.push {cls:=.type "list_iterator",data:=.fields #[.ref t,.int 0 0]}).IsList t items:=ht.at λo e=>Yn _ e;refine Yg (iD (Zk8 hlt items.size 0 _ _ ⟨_,Y5 _ rfl,rfl,rfl⟩ htp (lA 0 3776 T1) λh₁ Pr Ho=>?_));have hall:List.take items.size (List.drop 0 items.toList)=items.toList:=by
   rw[Js];exact rT (by simp)
  rw[hall];rw[if_neg (by simp)];have ht₁:h₁.IsList t items:=htp.extBut Ho.extBut hlt;refine Yg (iD (Yid hh Pr ht₁ (by simp) λh₂ he₂=>?_));simp only[Option.isSome_none,Ba,if_false];refine Yv (hQ h₂ λb o hb e=>he₂ b o hb (Ho.extBut b o hb (Yn _ e)))
theorem ZhA{env:gj}{elts:List Expr}{x1}{pos:aZ}{t:Y4}{items:Array Yh}{Q:Unit->Yl->Prop}(hh:A.handled=Ym)(ht:s.heap.IsList t items)(hn:(jJ elts env).length=items.size)(hstar:(jJ elts env).findIdx? (·.1)=Ym)(h:∀h',Q4 s.heap.objs.size s.heap h'->ao (aB prog w) A (assignInOrder ((jJ elts env).map (·.2)) items.toList) Q E {s with heap:=h'}):
  ao (aB prog w) A (jK (.Tuple elts x1 pos) env (.ref t)) Q E s:=by
 rw[assign_Tuple];refine Yg (vP ?_);unfold unpack;rw[hn,hstar];exact Yg (iD (Zik hh ht h))
end
section
variable {X:Cx} {e:Expr} {es:List Expr} {pos:aZ} {f:E3}
def ZyZ(K:Yb)(n:Nat)(t:qP):TG:=λv σ H Q=>∃a xs,v= .ref a/\bM K H a xs/\xs.length=n/\t xs σ H Q
theorem ZuU{k:Nat}{t:qP}{n:Nat}(hc:X.calm=true)(h:qQ X es t)(hn:autoParam ((jJ es X.env).length=n) qA)(hst:autoParam ((jJ es X.env).findIdx? (·.1)=Ym) qA):PG X (.Tuple es k pos) (ZyZ X.K n t):=by intro pins s σ H v u Q I r hw;obtain⟨a,xs,e1,hq,hl,hw⟩:=hw;subst e1;cases r;obtain⟨its,rv,ht,hz⟩:=I.list hq;refine ZhA (I.ok.hd hc) ht.isList (by simp[hn,←hl,rv.length]) hst λh' hx=>?_;have I1:Inv X pins σ H {s with heap:=h'}:=I.kept (t':=s.toks) λb o e=>hx b o (d8 (Y7 e)) e;exact h pins _ σ H xs _ Q I1 (by simpa using rv) hw
theorem ZmB:∀(is:List Nat) (ds:List D) (env env':bK),bindAll is ds env=Ya env'->ds.length=is.length:=by
 intro is
 induction is with
 |nil=>intro ds env env' h;cases ds with|nil=>rfl|cons d ds=>cases h
 |cons i is ih=>intro ds env env' h;cases ds with|nil=>cases h|cons d ds=>simp[ih ds _ _ h]
theorem UW{is:List Nat}{k:Nat}{tpos:aZ}(hc:X.calm=true)(he:C3 X e f)(h:G8 X es is)(hs:autoParam (QB [.Tuple es k tpos] e pos.line X.env=pure false) qA)(hw:autoParam (QC [.Tuple es k tpos] e X.env=pure Ym) qA)(h1:autoParam ((jJ [.Tuple es k tpos] X.env).map (·.2)=[jK (.Tuple es k tpos) X.env]) qA)(hn:autoParam ((jJ es X.env).length=is.length) qA)(hst:autoParam ((jJ es X.env).findIdx? (·.1)=Ym) qA):CS X (.Assign [.Tuple es k tpos] e pos) (qZ f is):=
 (Zrt he (ZuU (n:=is.length) hc h hn hst) hs hw h1).imp λD σ H ak=>by
 obtain⟨ι,M,env,S,E,hh⟩:=ak;refine⟨ι,M,env,S,E,?_⟩;unfold qZ at hh;cases q:f env M with
 |exc x M1=>rw[q]at hh;exact hh.elim|bad=>rw[q]at hh;exact hh.elim|ok d M1=>
  rw[q]at hh;cases d with
  | ref n=>
   simp only at hh;cases hm:M1[n]? with
   |none=>simp only[hm]at hh;exact hh.elim|some o=>
    cases o with
    |dct _=>simp only[hm]at hh;exact hh.elim|cV _=>simp only[hm]at hh;exact hh.elim|ins _ _=>simp only[hm]at hh;exact hh.elim|lst ds=>
     simp only[hm]at hh;cases qb:bindAll is ds env with
     |none=>simp only[qb]at hh;exact hh.elim|some dR=>simp only[qb]at hh;intro v H1 ι1 x1 S1 r1;obtain⟨a,ha,rfl⟩:=r1.dX;obtain⟨vs,hv,rv⟩:=S1.obj n _ a hm ha;exact⟨a,vs,rfl,bM.of hv,by rw[rv.length];exact ZmB _ _ _ _ qb,ι1,M1,env,ds,dR,S1,E.mono x1,rv,qb,λσ' E'=>hh σ' H1 ι1 x1 S1 E'⟩
  |_=>exact hh.elim
end
open AutoSeq1 (wpAny_loadPart')
set_option maxRecDepth 100000
theorem Zhf(l:Y4)(items:Array Yh)(n:Nat)(b:Y4)(items2:Array Yh)(n2:Nat)(sl:Array (Option Yh))(hl:¬(!items.isEmpty&&Bf (items.size+items2.size))=true)(hz:items.size<=bG)(hz2:items.size+items2.size<=bG+1):
  Meets (Builtin.«list.extend» ⟨[.ref l,.ref b],[]⟩) (λ_ R s=>s.heap.get? l=Ya {cls:=.type "list",data:=.seq items n}/\s.heap.get? b=Ya {cls:=.type "tuple",data:=.seq items2 n2,slots:=sl}/\
   R (.ok (.ret .none)) {s with heap:=s.heap.update l (yp λx=>x++items2)}):=
 .of_wp λprog w A R s h=>by
  obtain⟨hp,g,d,tk,os⟩:=s;obtain⟨h1,h2,h⟩:=h
  wp_walk using rW h1,rW h2
  rw[show(yp (λx=>x++items2) {cls:=Value.type "list",data:=Data.seq items n}).data.pastItsLine=Ym by show(if(items++items2).size>bG+1 then Ya "sequence:memory" else Ym)=Ym;rw[if_neg (by rw[Array.size_append];exactλz=>lC 2 0x6a0c21c0121ca0c11 T1 z hz2)]];exact Yv (Yv ⟨_,rfl,h⟩)
section
variable {X:Cx} {o e:Expr} {es:List Expr} {apos cpos:aZ} {f:E3} {gl:eQ}
noncomputable def Zm9(K:Yb):V->List V->Hp->VK->Prop:=λx vs H Q=>∃l b xs zs,x= .ref l/\vs=[.ref b]/\H l=Ya (.lst xs)/\cW K H b zs/\xs.length+zs.length<=bG/\Q .non (upd H l (.lst (xs++zs)))
theorem Zom:k_ X "list.extend" (Zm9 X.K):=by
 intro pins s σ H x vs v us Q I rx rv h;obtain⟨l,b,xs,zs,rfl,rfl,hH,hB,hz,q⟩:=h;cases rx;obtain⟨u,rfl,ru⟩:=rv.one;cases ru;obtain⟨z,its,n,r,hl,e⟩:=I.tU hH;obtain⟨its2,r2,⟨⟨c,dc,dt,sl⟩,e2,⟨hc,hd⟩,n2,hs⟩,z2⟩:=I.Abd hB;replace hc:c= .type "tuple":=hc;replace hd:dc=Ym:=hd;replace hs:dt= .seq its2.toArray n2:=hs;subst hc hd hs;have hl2:=r2.length;have hsz:its.toArray.size+its2.toArray.size<=bG:=by rw[Yq,Yq];exact lE 3 0x413c0402c0132311031 T1 hl2 hl hz
 have Et:¬(!its.toArray.isEmpty&&Bf (its.toArray.size+its2.toArray.size))=true:=by rw[SX hsz,yj];exact mJ
 refine qG Ykg ⟨_,e,rfl⟩ Yjr (Yi8 _ _)
  (Zhf l its.toArray n b its2.toArray n2 sl Et (by rw[Yq];exact lC 2 2268279672881 T1 hl z) (lC 1 0xa2c10c0210c01 T1 hsz)) ⟨e,e2,?_⟩
 refine⟨.non,_,I.Ew (its':=its++its2) hH e (by simp) (r.append r2) ?_,rfl,q⟩;rw[Yf];exact hz
theorem Zr6:k_ X "list.extend" (rM X.K m_):=k_.imp (r:=λx xs H Q=>ZpI x xs H Q\/Zm9 X.K x xs H Q) (λpins s σ H x xs v us Q I rx rs q=>q.elim (ZpY pins s σ H x xs v us Q I rx rs) (Zom pins s σ H x xs v us Q I rx rs)) λx xs H Q ak=>by
 obtain⟨ι,M,a,ds,S,ra,rd,h⟩:=ak;cases a with
 | ref n=>
  cases ds with
  |nil=>exact h.elim|cons d ds=>
   cases ds with
   |cons _ _=>cases d<;>exact h.elim|nil=>
    obtain⟨v,ws,rfl,r1,r2⟩:=rd.cons_inv;have:=r2.nil_inv;subst this;obtain⟨p,hp,rfl⟩:=ra.dX;cases hn:M[n]? with
    |none=>cases d<;>first|exact h.elim|(rw[yQ,hn]at h;exact h.elim)|(rw[Ca,hn]at h;exact h.elim)
    | some o=>
     cases o with
     |dct _=>cases d<;>first|exact h.elim|(rw[yQ,hn]at h;exact h.elim)|(rw[Ca,hn]at h;exact h.elim)
     |cV _=>cases d<;>first|exact h.elim|(rw[yQ,hn]at h;exact h.elim)|(rw[Ca,hn]at h;exact h.elim)
     |ins _ _=>cases d<;>first|exact h.elim|(rw[yQ,hn]at h;exact h.elim)|(rw[Ca,hn]at h;exact h.elim)
     | lst z=>
      obtain⟨vs,e,rv⟩:=S.obj n _ p hn hp;cases d with
      | tup y=>
       simp only[yQ,Ca,hn]at h;split at h
       .rename_i hz;obtain⟨b,ys,rfl,sb,ry⟩:=r1.ji;obtain⟨x2,S2⟩:=S.vD (.inr (.inl ⟨_,e⟩)) hp (rv.append ry);exact .inr ⟨p,b,vs,ys,rfl,rfl,e,sb,by rw[rv.length,ry.length];exact Yi hz (Yk0 (JQ kj)),h _ _ _ x2 S2 Rep.non⟩
       .exact h.elim
      | ref m=>
       simp only[yQ,Ca,hn]at h;cases hm:M[m]? with
       |none=>simp only[hm]at h;exact h.elim|some o2=>
        cases o2 with
        |dct _=>simp only[hm]at h;exact h.elim|cV _=>simp only[hm]at h;exact h.elim|ins _ _=>simp only[hm]at h;exact h.elim|lst y=>
         simp only[hm]at h;split at h
         .rename_i hz;obtain⟨b,hb,rfl⟩:=r1.dX;obtain⟨ys,eb,ry⟩:=S.obj m _ b hm hb;obtain⟨x2,S2⟩:=S.vD (.inr (.inl ⟨_,e⟩)) hp (rv.append ry);exact .inl ⟨p,b,vs,ys,rfl,rfl,e,eb,by rw[rv.length,ry.length];exact Yi hz.2 (Yk0 (JQ kj)),h _ _ _ x2 S2 Rep.non⟩
         .exact h.elim
      |_=>exact h.elim
 |_=>cases ds<;>exact h.elim
theorem U0(ho:C3 X o f)(ha:CA X (e::es) gl)(hbase:autoParam (nQ o "extend" X.env (aM o X.env)=aM o X.env) qA)(hfew:((cN cpos (Yz (e::es) X.env)).all (λx=>!x.1)&&(jc cpos (i_ [] X.env)).all (λx=>x.1.isSome)
   &&decide ((e::es).length+([]:List Keyword).length+(if([]:List Keyword).isEmpty then 0 else 1)<30))=true:=by rfl)(hline:autoParam ((apos.endLine==cpos.line)=true) qA)(hs:autoParam (Yz (e::es) X.env=(false,aM e X.env)::Yz es X.env) qA)(hplain:autoParam ((cN cpos (Yz es X.env)).any (·.1)=false) qA):
  C3 X (.Call (.Attribute o "extend" apos) (e::es) [] cpos) (aG bj m_ f gl):=
 (Bu Rk PySem.F.slot_list_extend PySem.F.type_list_extend Zr6 ho ha hbase hfew hline hs hplain).imp (Cm Us)
theorem Zt6{K:Yb}{T:String}{ty:D->Store->Bool}{m:D->List D->Store->R3 D}(hty:∀H ι M a x,aH K H ι M->Rep K H ι a x->ty a M=true->yE K T x H)(σ:St)(H:Hp)(Q:VK)(h:nj K (aG ty m f Zf) σ H Q):Zyc K T (rM K m) (nj K f) σ H Q:=by
 obtain⟨ι,M,env,S,E,h⟩:=h;obtain⟨a,M1,e1,h⟩:=Zv.bind h;refine⟨ι,M,env,S,E,?_⟩;rw[e1];intro v H1 ι1 x1 S1 r1;by_cases ht:ty a M1=true
 .rw[if_pos ht]at h;exact⟨hty _ _ _ _ _ S1 r1 ht,ι1,M1,a,[],S1,r1,au.nil,h.up x1⟩
 .rw[if_neg ht]at h;exact h.elim
theorem Mq(ho:C3 X o f)(hbase:autoParam (nQ o "pop" X.env (aM o X.env)=aM o X.env) qA)(hline:autoParam ((apos.endLine==cpos.line)=true) qA):C3 X (.Call (.Attribute o "pop" apos) [] [] cpos) (aG bj pY f Zf):=(Zvu Rk PySem.F.slot_list_pop PySem.F.type_list_pop Zxy ho hbase hline).imp (Zt6 Us)
end
end _L3
namespace _L3
open PySem PySem.Spec PyProof.Rows _L2
set_option maxRecDepth 100000
section
variable {X:Cx} {elt tg iter:Expr} {ifs:List Expr} {scope:Scope} {pos:aZ} {i:yP} {own:Nat} {g:G3} {ts:List E3} {f:E3} {N':List aj}
theorem ZiI{pins:List (Y4×aP)}{σ:St}{s2:Yl}{H2:Hp}{ι2:List Y4}{M2:Store}{env:bK}{it:Y4}{fp:List Y4}{tn:Nat->aR->Prop}{J:It}{aX:G4}{Q:VK}{E:Yh->Yl->Prop}(O:wQ X scope N' own)(hc:X.calm=true)(hb:∀C cl s H ex,CG (fO X scope N' C cl s H ex) tg g/\qj (fO X scope N' C cl s H ex) ifs ts/\C3 (fO X scope N' C cl s H ex) elt f)(I2:Inv X pins σ H2 s2)(T:Turn X.prog X.w X.K tg J fp it tn)(st0:tn 0 s2.heap)(hfp:∀b∈fp,iU X pins H2 b)(S2:aH X.K H2 ι2 M2)(E2:cO X.K H2 ι2 env σ)(ok:Mp X.K H2 ι2 aX J)(h:Zv X.K H2 ι2 Q (jT aX.lk g ts f M2.length aX.items (env++Yr own Ym) (M2++[.lst []])))(RR:Yh->Y4->um->Yl->Prop)(fin:∀(acc C:Y4) (s':Yl) (m:aj->Option Yh) (H':Hp),s'.heap.Ns C m->iU X pins H' C->Inv X pins σ H' s'->Q (.ref acc) H'->RR (.ref acc) C (.ok .next) s'):
  ao (aB X.prog X.w) X.A (JP []) (λacc s₃=>ao (aB X.prog X.w) X.A (Qz scope X.env.globals (gU X.env.cells scope.names []) [] X.env.qual Ym .none (Ya X.env)) (λcenv s₄=>nR (aB X.prog X.w) X.A (.compStart (.ListComp elt [⟨tg,iter,ifs,0⟩] scope pos) 0 (.ref it) acc {cenv with scope:=vW scope X.env}) (RR acc cenv.locals) s₄) E s₃) E s2:=by
 refine ug ?_;have hD:H2 s2.heap.objs.size=Ym:=I2.hok.fresh (Yt _);obtain⟨x3,S3,r3⟩:=S2.lst hD (au.nil (K:=X.K) (H:=H2) (ι:=ι2));have I3:Inv X pins σ (upd H2 s2.heap.objs.size (.lst [])) {s2 with heap:=s2.heap.push {cls:=.type "list",data:=.seq ([]:List Yh).toArray}}:=I2.laid (t':=s2.toks) (λb u e=>Yn _ e) (Yt _) ⟨fC _,[],0,.nil,Y5 _ rfl⟩;generalize hs3:({s2 with heap:=s2.heap.push {cls:=.type "list",data:=.seq ([]:List Yh).toArray}}:Yl)=s3 at I3 ⊢;have xO:∀b o,s2.heap.get? b=Ya o->s3.heap.get? b=Ya o:=λb o e=>by rw[←hs3];exact Yn _ e
 have nH:∀b∈fp,iU X pins (upd H2 s2.heap.objs.size (.lst [])) b:=λb hb=>by refine⟨?_,(hfp b hb).2⟩;obtain⟨o,e,_⟩:=T.obj _ _ st0 b hb;rw[gB (d8 (Y7 e))];exact(hfp b hb).1
 have vG:∀b∈fp,b<s3.heap.objs.size:=λb hb=>by obtain⟨o,e,_⟩:=T.obj _ _ st0 b hb;exact Y7 (xO b o e)
 have st3:tn 0 s3.heap:=T.keep _ _ _ st0 λb hb o e=>xO b o e;refine Yi9 O.cell (by intro y hy;cases hy) (λh4 hns hsb=>?_) O.kind;have Es:∀b o,s3.heap.get? b=Ya o->h4.get? b=Ya o:=λb o e=>hsb.extBut b o (d8 (Y7 e)) (Yn _ e);have I4:=Zmt (own:=own) (N':=N') (tk:=s3.toks+([]:List (aj×Yh)).length) I3 O.kind O.cell O.free O.len O.vis nH vG hns Es;have Hj:tn 0 h4:=T.keep _ _ _ st3 λb hb o e=>Es b o e;have Pu:∀{H':Hp},(∀b∈fp,H' b=Ym)->∀b∈fp,iU (fO X scope N' s3.heap.objs.size (gU X.env.cells scope.names []) s3 (upd H2 s2.heap.objs.size (.lst [])) fp) [] H' b:=λhn b hb=>by have hc0:∀y∈scope.names,y.2= .free->∃c,X.env.cells.lookup y.1=Ya c:=λy hy e=>I2.ok.has y.1 (O.free y hy e);refine⟨hn b hb,d8 (vG b hb),λhz=>I4.ok.zY b hb hz,.inl hb,λx c hx=>(I4.ok.Ku b hb).2 x c hx,λp hp=>absurd (show p∈([]:List (Y4×aP))from hp) (by simp)⟩
 obtain ⟨hg,hts,helt⟩:=hb s3.heap.objs.size (gU X.env.cells scope.names []) s3 (upd H2 s2.heap.objs.size (.lst [])) fp;have loop:∀s₄:Yl,s₄={s3 with heap:=h4,toks:=s3.toks+([]:List (aj×Yh)).length} ->
   nR (aB X.prog X.w) X.A (.compLoop (.ListComp elt [⟨tg,iter,ifs,0⟩] scope pos) 0 (.ref it) (.ref s2.heap.objs.size) (Ft scope (gU X.env.cells scope.names []) s3.heap.objs.size X.env)) (RR (.ref s2.heap.objs.size) s3.heap.objs.size) s₄:=by
  rintro s₄ rfl;refine Zh6 (λn s'=>∃k σ5 H5 ι5 M5 tV,Inv (fO X scope N' s3.heap.objs.size (gU X.env.cells scope.names []) s3 (upd H2 s2.heap.objs.size (.lst [])) fp) [] σ5 H5 s'/\tn k s'.heap/\(∀b∈fp,H5 b=Ym)/\n=aX.items.length-k/\k<=aX.items.length/\
   Ext X.K H2 ι2 H5 ι5/\aH X.K H5 ι5 M5/\cO X.K H5 ι5 tV σ5/\ι5[M2.length]?=Ya s2.heap.objs.size/\Zv X.K H5 ι5 Q (jT aX.lk g ts f M2.length (aX.items.drop k) tV M5)) ?_ aX.items.length
   ⟨0,_,_,_,_,_,I4,Hj,λb hb=>(nH b hb).1,rfl,fC _,x3,S3,(E2.mono x3).grow own,?_,h.up x3⟩
  .rintro n s5 ⟨k,σ5,H5,ι5,M5,tV,I5,mL,pU,rfl,hk,x5,S5,E5,hι,h5⟩;by_cases hlt:k<aX.items.length
   .have hd:aX.items[k]?=Ya aX.items[k]:=by simp[hlt]
    rw[Ad hlt]at h5;unfold jT at h5;by_cases lk:jR aX.lk M5=true
    .rw [if_pos lk]at h5;obtain⟨go,yl⟩:=(ok k H5 ι5 M5 x5 S5 lk).1 _ hd;cases eg:g aX.items[k] tV with
     |none=>rw[eg]at h5;exact h5.elim|some tW=>
      rw[eg]at h5;refine aJ (T.item (fO X scope N' s3.heap.objs.size (gU X.env.cells scope.names []) s3 (upd H2 s2.heap.objs.size (.lst [])) fp) rfl rfl rfl hc k [] s5 σ5 H5 (λ_ _=>False) I5 (Pu pU) mL go) λr s6 ak=>?_;obtain⟨u,hr,h6⟩:=ak;subst hr;refine aJ h6 λ_ s7 ak=>?_;obtain⟨x,H7,I7,r7,y7,mq,Mg⟩:=ak;obtain⟨y8,S7,rx⟩:=yl x H7 y7;have I7':=I7.pinned (Pu Mg) (T.obj _ _ mq);refine aJ (hg _ s7 σ5 H7 x u (λσ' H'=>H'=H7/\cO X.K H7 ι5 tW σ') I7' r7 ⟨ι5,M5,tV,_,tW,S7,E5.mono y8,rx,eg,λσ' E'=>⟨rfl,E'⟩⟩) λ_ s8 ak=>?_;obtain⟨σ8,H8,I8,e8,E8⟩:=ak;subst e8;replace h5:=Zv.up y8 h5;replace x5:=x5.trans y8;replace S5:=S7;have back:∀{σ':St} {H':Hp} {s':Yl},Inv (fO X scope N' s3.heap.objs.size (gU X.env.cells scope.names []) s3 (upd H2 s2.heap.objs.size (.lst [])) fp) ([]++uz fp s7.heap) σ' H' s' ->
        Inv (fO X scope N' s3.heap.objs.size (gU X.env.cells scope.names []) s3 (upd H2 s2.heap.objs.size (.lst [])) fp) [] σ' H' s'/\tn (k+1) s'.heap/\∀b∈fp,H' b=Ym:=λ{σ' H' s'} I'=>by
       refine⟨I'.Ep,T.keep _ _ _ mq λb hb o e=>(I'.pin (b,o) (iQ _ (iQ _ (Bp hb e)))).1,λb hb=>?_⟩;obtain⟨o,e,d⟩:=T.obj _ _ mq b hb;exact(I'.pin (b,o) (iQ _ (iQ _ (Bp hb e)))).2.1
      obtain⟨b,M9,e9,h9⟩:=Zv.bind h5;refine aJ (hts _ s8 σ8 H8 (λb' H'=>b'=b/\∃ι9,Ext X.K H8 ι5 H' ι9/\aH X.K H' ι9 M9) I8 ⟨ι5,M5,tW,S5,E8,by rw[e9];exactλH' ι' x' S'=>⟨rfl,ι',x',S'⟩⟩) λb' s9 ak=>?_;obtain⟨H9,I9,eb,ι9,x9,S9⟩:=ak;subst eb;cases b' with
      |false=>rw[if_neg (by decide)]at h9 ⊢;obtain⟨I9',st9,fr9⟩:=back I9;exact⟨aX.items.length-(k+1),lD 2 0x30113c2012a1c0c21 T1 (Y9 (lB 1 6991908881 T1 hlt)) (gO _ _),k+1,σ8,H9,ι9,M9,tW,I9',st9,fr9,rfl,hlt,x5.trans x9,S9,E8.mono x9,x9.pre _ _ hι,h9.up x9⟩|true=>
       rw[if_pos rfl]at h9 ⊢;obtain⟨d,Hi,e10,h10⟩:=Zv.bind h9;refine aJ (helt _ s9 σ8 H9 (λv H'=>∃rn,Ext X.K H9 ι9 H' rn/\aH X.K H' rn Hi/\Rep X.K H' rn d v) I9 ⟨ι9,M9,tW,S9,E8.mono x9,by rw[e10];exactλv H' ι' x' S' r'=>⟨ι',x',S',r'⟩⟩) λxv Ma ak=>?_;obtain⟨v,Ui,Uj,r10,rn,x10,Mf,rd⟩:=ak;have Px:rn[M2.length]?=Ya s2.heap.objs.size:=x10.pre _ _ (x9.pre _ _ hι);cases hm:Hi[M2.length]? with
       |none=>rw[hm]at h10;exact h10.elim|some o=>
        cases o with
        |dct _=>rw[hm]at h10;exact h10.elim|cV _=>rw[hm]at h10;exact h10.elim|ins _ _=>rw[hm]at h10;exact h10.elim|lst xs=>
         rw[hm]at h10;by_cases hz:xs.length<SZ
         .simp only[if_pos hz]at h10;obtain⟨vs,ev,rvs⟩:=Mf.obj _ _ _ hm Px;obtain⟨x11,Uh⟩:=Mf.vD (.inr (.inl ⟨_,ev⟩)) Px (rvs.append (au.cons rd au.nil));refine aJ (S_ _ Ma σ8 Ui (.ref s2.heap.objs.size) [v] (.ref s2.heap.objs.size) [xv] (λ_ H'=>H'=upd Ui s2.heap.objs.size (.lst (vs++[v]))) Uj rfl (.cons r10 .nil) ⟨_,vs,v,rfl,rfl,ev,by rw[rvs.length];exact Y8 hz kj,rfl⟩) λ_ LR ak=>?_;obtain⟨_,H11,L_,_,eH⟩:=ak;subst eH;obtain⟨AbG,AbH,AbI⟩:=back L_;exact⟨aX.items.length-(k+1),lD 2 0x30113c2012a1c0c21 T1 (Y9 (lB 1 6991908881 T1 hlt)) (gO _ _),k+1,σ8,_,rn,_,tW,AbG,AbH,AbI,rfl,hlt,((x5.trans x9).trans x10).trans x11,Uh,((E8.mono x9).mono x10).mono x11,Px,((h10.up x9).up x10).up x11⟩
         .simp only[if_neg hz]at h10;exact h10.elim
    .rw[if_neg lk]at h5;exact h5.elim
   .have e0:k=aX.items.length:=Y1 hk (j8 hlt);subst e0;rw[Qk]at h5;unfold jT at h5;by_cases lk:jR aX.lk M5=true
    .rw[if_pos lk]at h5;refine aJ (T.done (fO X scope N' s3.heap.objs.size (gU X.env.cells scope.names []) s3 (upd H2 s2.heap.objs.size (.lst [])) fp) rfl rfl rfl hc _ [] s5 σ5 H5 (λ_ _=>False) I5 (Pu pU) mL ((ok _ H5 ι5 M5 x5 S5 lk).2 rfl)) λr s6 ak=>?_;obtain⟨hr,I6⟩:=ak;subst hr;obtain⟨m6,Uk,_⟩:=I6.loc;have I7:Inv X pins σ H5 s6:=I3.call' (ch:=fp) I6.os I6.base I6.hok I6.bare λb hb=>⟨(nH b hb).2.2.2.1,(nH b hb).2.1,(nH b hb).2.2.2.2.1,(nH b hb).2.2.2.2.2⟩;exact fin _ _ s6 m6 H5 Uk (I3.vB (Yt _) I6.free) I7 (h5 _ H5 ι5 Ext.refl S5 (Rep.ref hι))
    .rw[if_neg lk]at h5;exact h5.elim
  .rw[←S2.len];simp
 exact Yh1 (loop _ rfl) (T.self _ 0 _ _ _ Hj (loop _ rfl))
theorem Zym(O:wQ X scope N' own)(yW:X.xe=λ_ _=>False)(hc:X.calm=true)(hi:CIL X tg iter i)(hb:∀C cl s H ex,CG (fO X scope N' C cl s H ex) tg g/\qj (fO X scope N' C cl s H ex) ifs ts/\C3 (fO X scope N' C cl s H ex) elt f)(hs:∀x,Al iter X.env x=pure x:=by intro _;rfl):C3 X (.ListComp elt [⟨tg,iter,ifs,0⟩] scope pos) (wG i own g ts f):=by intro pins s σ H Q I h;obtain⟨ι,M,env,S,E,h⟩:=h;obtain⟨aX,M1,e1,h⟩:=Zv.bind h;have hc0:∀y∈scope.names,y.2= .free->∃c,X.env.cells.lookup y.1=Ya c:=λy hy e=>I.ok.has y.1 (O.free y hy e);rw[eval_ListComp];refine Jv (use:=Ym) rfl hs (LC hc0) O.kind O.names ?_;refine aJ (hi pins s σ H (λJ H'=>∃ι',Ext X.K H ι H' ι'/\aH X.K H' ι' M1/\Mp X.K H' ι' aX J) I ⟨ι,M,env,S,E,by rw[e1];exactλJ H' ι' x S' o=>⟨ι',x,S',o⟩⟩) λv s1 h1=>aJ h1 λitv s2 h2=>?_;obtain⟨it,fp,tn,J,H2,rfl,I2,T,st2,f2,ι2,x2,S2,ok⟩:=h2;refine ZiI (own:=own) (g:=g) (ts:=ts) (f:=f) O hc hb I2 T st2 f2 S2 (E.mono x2) ok (h.up x2) (λacc C=>JG (aB X.prog X.w) X.A X.xe Ym (EP X pins σ Q) acc C) ?_;intro acc C s' m H' hn hf I' hq;obtain⟨f0,f1,Ul,f3,f4,f5⟩:=hf;exact⟨m,hn,λh' sb=>⟨.ref acc,H',I'.turned (t':=s'.toks) (λb o hb e=>(sb.2 b hb).trans e) f0 f1 f3 f4 f5,rfl,hq⟩⟩
theorem Zk2(j:Nat){x:aj}{pos' spos:aZ}(O:wQ X scope N' own)(yW:X.xe=λ_ _=>False)(hc:X.calm=true)(hN:X.N.Nodup)(hi:CIL X tg iter i)(hb:∀C cl s H ex,CG (fO X scope N' C cl s H ex) tg g/\qj (fO X scope N' C cl s H ex) ifs ts/\C3 (fO X scope N' C cl s H ex) elt f)(hj:autoParam (X.N[j]?=Ya x) qA)(hx:Loc X.env.scope x:=by first|exact Or.inl rfl|exact Or.inr rfl)(hf:X.fn x=true\/X.env.scope.names.lookup x=Ya .local:=by first|exact .inl rfl|exact .inr rfl)(hsw:autoParam (vR (.ListComp elt [⟨tg,iter,ifs,0⟩] scope pos) (Ya (.Name x pos')) spos.line X.env=pure true) qA)(hs:∀x,Al iter X.env x=pure x:=by intro _;rfl):CS X (.Assign [.Name x pos'] (.ListComp elt [⟨tg,iter,ifs,0⟩] scope pos) spos) (aA j (wG i own g ts f)):=by
 intro pins s σ H D I h;obtain⟨ι,M,env,S,E,h⟩:=h;have h0:Zv X.K H ι (λv H'=>D.nx (σ.set j (Ya v)) H') (wG i own g ts f env M):=by
  unfold aA at h;cases q:wG i own g ts f env M with
  |ok d M1=>rw[q]at h;exactλv H1 ι1 x1 S1 r1=>h _ H1 ι1 x1 S1 ((E.mono x1).set j r1)|exc _ _=>rw[q]at h;exact h.elim|bad=>rw[q]at h;exact h.elim
 obtain⟨aX,M1,e1,h1⟩:=Zv.bind h0;have hc0:∀y∈scope.names,y.2= .free->∃c,X.env.cells.lookup y.1=Ya c:=λy hy e=>I.ok.has y.1 (O.free y hy e);rw[Yim _ _ _ _ hsw];refine Yg (vP (Yg ?_));show ao _ X.A (do let _ ←comprehension (.ListComp elt [⟨tg,iter,ifs,0⟩] scope pos) scope X.env _ (JP []) false (aM iter X.env) (Ya (jK (.Name x pos') X.env))) _ _ s;refine Yg (j7 (Jv (use:=Ya (jK (.Name x pos') X.env)) (Q:=λ_ s'=>SP X pins D .next s') rfl hs (LC hc0) O.kind O.names ?_) (λ_ s' hq=>Yv (Yv hq)) λ_ _ e=>e);refine aJ (hi pins s σ H (λJ H'=>∃ι',Ext X.K H ι H' ι'/\aH X.K H' ι' M1/\Mp X.K H' ι' aX J) I ⟨ι,M,env,S,E,by rw[e1];exactλJ H' ι' x S' o=>⟨ι',x,S',o⟩⟩) λv s1 h1'=>aJ h1' λitv s2 h2=>?_;obtain⟨it,fp,tn,J,H2,rfl,I2,T,st2,f2,ι2,x2,S2,ok⟩:=h2;refine ZiI (own:=own) (g:=g) (ts:=ts) (f:=f) O hc hb I2 T st2 f2 S2 (E.mono x2) ok (h1.up x2) (λacc C=>JG (aB X.prog X.w) X.A X.xe (Ya (jK (.Name x pos') X.env)) (λ_ s'=>SP X pins D .next s') acc C) ?_;intro acc C s' m H' hn Um I' hq;obtain⟨f0,f1,Ul,f3,f4,f5⟩:=Um;show ao _ X.A (jK (.Name x pos') X.env (.ref acc)) _ _ s';refine Qu (R6 I' hN hj hx (show RelV (.ref acc) (.ref acc)from rfl) (λs'' Uo ⟨a,sb,ha⟩=>?_) hf);have Uq:C≠a:=by
  rcases ha with rfl|ha
  .exact f1
  .exact dw (f4 x a ha)
 exact⟨m,hn.sameBut sb Uq,λh' Ur=>⟨_,H',Uo.turned (t':=s''.toks) (λb o hb e=>(Ur.2 b hb).trans e) f0 f1 f3 f4 f5,hq⟩⟩
end
open PySem PySem.W PyProof.Rows
section
variable {M:Model} {A:bW} {E:Yh->Yl->Prop} {G:Yl->Prop}
def TT(M:Model)(A:bW)(E:Yh->Yl->Prop)(G:Yl->Prop){α:Type}(m:StateT SortSt pN α)(Q:α->SortSt->Prop)(st:SortSt):Prop:=∀s,G s->kasC M A E m (λa st' s'=>Q a st'/\G s') st s
end
end _L3
namespace _L3
open PySem PySem.Spec PyProof.Rows _L2
noncomputable abbrev nm(f:List Nat):aj:=⟨f.toArray⟩
variable{f:List Nat}
theorem ZqC{g:List Nat}(h:nm f=nm g):f=g:=by have:=congrArg (λs:aj=>s.cps.toList) h;simpa using this
section
variable {K:Yb} {H H':Hp} {ι ι':List Y4} {fs:List (List Nat×D)} {gs:List (aj×V)}
theorem gG.mono(e:Ext K H ι H' ι')(h:gG K H ι fs gs):gG K H' ι' fs gs:=⟨h.1,h.2.mono e⟩
theorem gG.nil:gG K H ι [] []:=⟨rfl,au.nil⟩
theorem gG.nil_inv(h:gG K H ι [] gs):gs=[]:=Af.mp h.1
theorem gG.cons_inv{d:D}(h:gG K H ι ((f,d)::fs) gs):∃v gs',gs=(nm f,v)::gs'/\Rep K H ι d v/\gG K H ι fs gs':=by
 cases gs with
 |nil=>cases h.1|cons p gs'=>obtain⟨g,v⟩:=p;obtain⟨h1,h2⟩:=h;rw[Ys,Ys]at h1 h2;obtain⟨e1,e2⟩:=je h1;obtain⟨v',ws,e,r,q⟩:=h2.cons_inv;obtain⟨rfl,rfl⟩:=je e;exact⟨v,gs',by rw[show g=nm f from e1],r,e2,q⟩
theorem gG.cons{f:List Nat}{d:D}{v:V}(r:Rep K H ι d v)(h:gG K H ι fs gs):gG K H ι ((f,d)::fs) ((nm f,v)::gs):=⟨by rw[Ys,Ys,h.1],au.cons r h.2⟩
theorem gG.length(h:gG K H ι fs gs):gs.length=fs.length:=by have:=congrArg ud h.1;simpa using this
theorem gG.look:∀{fs:List (List Nat×D)} {gs:List (aj×V)},gG K H ι fs gs->(fs.lookup f=Ym->gs.lookup (nm f)=Ym)/\∀d,fs.lookup f=Ya d->∃v,gs.lookup (nm f)=Ya v/\Rep K H ι d v
 |[],_,h=>by rw[h.nil_inv];exact⟨λ_=>rfl,λd e=>by cases e⟩|(g,x)::fs,_,h=>by
  obtain⟨v,gs',rfl,r,t⟩:=h.cons_inv;rw[lQ,lQ];by_cases e:f=g
  .subst e;rw[beq_self_eq_true,beq_self_eq_true];exact⟨λq=>(by cases q),λd q=>(by cases q;exact⟨v,rfl,r⟩)⟩
  .rw[beq_false_of_ne e,beq_false_of_ne λq=>e (ZqC q)];exact t.look
theorem gG.put{d:D}{v:V}(r:Rep K H ι d v):∀{fs:List (List Nat×D)} {gs:List (aj×V)},gG K H ι fs gs->gG K H ι (wH f d fs) (jo (nm f) v gs)
 |[],_,h=>by rw[h.nil_inv];exact gG.cons r gG.nil|(g,x)::fs,_,h=>by
  obtain⟨w,gs',rfl,r',t⟩:=h.cons_inv;unfold wH jo;by_cases e:g=f
  .subst e;rw[if_pos rfl,if_pos rfl];exact gG.cons r t
  .rw[if_neg e,if_neg λq=>e (ZqC q)];exact gG.cons r' (t.put r)
end
structure zf(K:Yb)(c:List Nat)(C:Y4):Prop where
 aq:ClsAt K c C
 cls:wu K C
 nz:c.head?≠Ya 0
variable{K:Yb}
theorem zf.same{c:List Nat}{C C':Y4}(h:zf K c C)(q:ClsAt K c C'):C'=C:=by have:=q.symm.trans h.aq;cases this;rfl
variable{ps:List aj}{w:bJ}
section
variable {X:Cx} {o e:Expr} {es:List Expr} {f g:E3} {gl:eQ} {c m:List Nat} {C:Y4} {fn:aj} {pos pos' apos p:aZ} {x:aj}
theorem ZpL{M:Store}{n:Nat}{H:Hp}{ι:List Y4}{a:Y4}(kc:zf X.K c C)(S:aH X.K H ι M)(ha:ι[n]?=Ya a){fs:List (List Nat×D)}(hn:M[n]?=Ya (.ins c fs)):∃dx gs,H a=Ya (.ins C dx gs)/\gG X.K H ι fs gs:=by
 rcases S.obj n _ a hn ha with⟨C',dx,gs,q,ca,fr⟩|⟨_,_,z,_⟩
 .rw[kc.same ca.1]at q;exact⟨dx,gs,q,fr⟩
 .exact absurd z kc.nz
theorem uT(kc:zf X.K c C)(nf:sH X.K C (nm m))(he:C3 X e f)(hf:fn=nm m:=by decide +kernel)(hb:autoParam (nQ e fn X.env (aM e X.env)=aM e X.env) qA):C3 X (.Attribute e fn pos) (e1 (jU c m) f):=by
 subst hf;refine(Zv8 he hb).imp λσ H Q ak=>?_;obtain⟨ι,M,env,S,E,h⟩:=ak;obtain⟨d,M1,e1,hh⟩:=Zv.bind h;refine⟨ι,M,env,S,E,?_⟩;rw[e1];intro v H1 ι1 x1 S1 r1;cases d with
 | ref n=>
  simp only[Zno]at hh;cases hn:M1[n]? with
  |none=>simp only[hn]at hh;exact hh.elim|some ob=>
   cases ob with
   | ins c' fs=>
    simp only[hn]at hh;split at hh
    .rename_i ec;subst ec;obtain⟨a,ha,rfl⟩:=r1.dX;obtain⟨dx,gs,q,fr⟩:=ZpL kc S1 ha hn;split at hh
     .rename_i d hl;obtain⟨w,lw,lg⟩:=(fr.look (f:=m)).2 d hl;exact⟨a,C,dx,gs,w,rfl,q,kc.cls,nf,lw,hh w H1 ι1 x1 S1 lg⟩
     .exact hh.elim
    .exact hh.elim
   |_=>simp only[hn]at hh;exact hh.elim
 |_=>exact hh.elim
theorem ZrG(kc:zf X.K c C)(nf:sH X.K C (nm m))(ho:C3 X o f)(hv:C3 X e g)(hf:fn=nm m:=by decide +kernel)(hs:autoParam (vR e (Ya (.Attribute o fn pos')) pos.line X.env=pure false) qA):CS X (.Assign [.Attribute o fn pos'] e pos) (G5 c m f g):=by
 subst hf;refine(Zvc ho hv hs).imp λD' σ H ak=>?_;obtain⟨ι,M,env,S,E,hh⟩:=ak;have hh:=ZmD E hh;obtain⟨d,M1,e1,hh⟩:=Zv.bind hh;obtain⟨b,M2,e2,hh⟩:=Zv.bind hh;refine⟨ι,M,env,S,E,?_⟩;rw[e1];intro y H1 ι1 x1 S1 r1;refine⟨ι1,M1,env,S1,E.mono x1,?_⟩;rw[e2];intro w H2 ι2 x2 S2 r2;cases b with
 | ref n=>
  simp only[TY]at hh;cases hn:M2[n]? with
  |none=>simp only[hn]at hh;exact hh.elim|some ob=>
   cases ob with
   | ins c' fs=>
    simp only[hn]at hh;split at hh
    .rename_i ec;obtain⟨ec,lf⟩:=ec;subst ec;obtain⟨a,ha,rfl⟩:=r2.dX;obtain⟨dx,gs,q,fr⟩:=ZpL kc S2 ha hn;have l0:Loose H2 a:=.inr (.inr (.inr ⟨C,dx,gs,q⟩));have x3:Ext X.K H2 ι2 (upd H2 a (.ins C dx (jo (nm m) y gs))) ι2:=l0.ext;have S3:aH X.K (upd H2 a (.ins C dx (jo (nm m) y gs))) ι2 (M2.set n (.ins c' (wH m d fs))):=S2.put l0 ha (.inl ⟨C,dx,_,qN,⟨kc.aq,kc.nz⟩,(fr.put (r1.mono x2)).mono x3⟩);exact⟨a,C,dx,gs,rfl,q,kc.cls,nf,by rw[fr.length];exact lf,hh .non _ _ ((x1.trans x2).trans x3) S3 Rep.non⟩
    .exact hh.elim
   |_=>simp only[hn]at hh;exact hh.elim
 |_=>exact hh.elim
def U3(P:bR)(w:bJ)(K:Yb)(mg:aj->Option Yh)(base:aR)(k:Nat)(C:Y4)(m:aj)(ps:List aj)(F:F3):Prop:=(∀ds M,ds.length≠ps.length->F ds M= .bad)/\∃f fd,Meth K C m f/\Binds K fd ps []/\jO P w K mg base mU k f fd ps (uR K ps.length F)
theorem U3.mono{P:bR}{mg:aj->Option Yh}{base:aR}{C:Y4}{j k:Nat}{x:aj}{F:F3}(h:U3 P w K mg base j C x ps F)(l:j<=k):U3 P w K mg base k C x ps F:=let⟨n,f,fd,a,b,d⟩:=h;⟨n,f,fd,a,b,d.mono l⟩
theorem Zv3{k:Nat}{F:F3}{fa:Y4}{fd:lU}(aq:ClsAt X.K c C/\c.head?≠Ya 0)(Mc:Mk X.K C fa)(hF:∀ds M,ds.length≠ps.length->F ds M= .bad)(ok:jO X.prog X.w X.K X.mg X.base mU k fa fd ps (uR X.K ps.length F))(bi:Binds X.K fd ps [])(hm:X.mg x=Ya (.ref C))(hr:d9 (k+1) X.A)(ha:CA X (e::es) gl)(hg:autoParam (Gl X x) qA)(hdb:autoParam ((x==("__debug__":aj))=false) qB)(he:autoParam (Yz (e::es) X.env=(false,aM e X.env)::Yz es X.env) qA)(hpl:autoParam ((cN pos (Yz es X.env)).any (·.1)=false) qA):C3 X (.Call (.Name x p) (e::es) [] pos) (Cd c F gl):=by
 refine(ZtE Mc ok hr hg hm bi .nil ZuF ha hdb he hpl).imp λσ H Q ak=>?_;obtain⟨ι,M,env,S,E,h⟩:=ak;obtain⟨ds,M1,e1,h⟩:=Zv.bind h;refine⟨ι,M,env,S,E,?_⟩;rw[e1];intro vs H1 ι1 x1 S1 r1 y dx hy hd ne;have y2:upd H1 dx (.own y) y=Ym:=by rw[gB (dw ne)];exact hy
 have x2:Ext X.K H1 ι1 (upd H1 dx (.own y)) ι1:=Loose.ext (.inl hd);have S2:aH X.K (upd H1 dx (.own y)) ι1 M1:=S1.other (.inl hd) (S1.fresh hd);have x3:Ext X.K (upd H1 dx (.own y)) ι1 (upd (upd H1 dx (.own y)) y (.ins C dx [])) (ι1++[y]):=Loose.I_ (.inl y2);have S3:aH X.K (upd (upd H1 dx (.own y)) y (.ins C dx [])) (ι1++[y]) (M1++[.ins c []]):=S2.new y2 (.inl ⟨C,dx,[],qN,aq,gG.nil⟩);have hy':(ι1++[y])[M1.length]?=Ya y:=by rw[←S1.len];simp
 have rr:Rep X.K (upd (upd H1 dx (.own y)) y (.ins C dx [])) (ι1++[y]) (.ref M1.length) (.ref y):=Rep.ref hy';cases q:F (.ref M1.length::ds) (M1++[.ins c []])with
 |bad=>simp only[q]at h;exact h.elim|exc _ _=>simp only[q]at h;exact h.elim|ok d M2=>
  have hl:(D.ref M1.length::ds).length=ps.length:=by refine Ygx λz=>?_;rw[hF _ _ z]at q;cases q
  refine⟨ι1++[y],M1++[.ins c []],.ref M1.length::ds,S3,by rw[kO];exact au.cons rr ((r1.mono x2).mono x3),hl,?_⟩;rw[q];simp only[q]at h;cases d with
  |non=>intro v H4 ι4 x4 S4 r4;exact⟨r4.jD,h _ H4 ι4 (((x1.trans x2).trans x3).trans x4) S4 (rr.mono x4)⟩|_=>exact h.elim
end
noncomputable def Zts(s:Yep):List Yep:=match s with
 | .ClassDef _ _ _ b _ _ _ _ _ _ _=>b|_=>[]
def Mr(K:Yb)(C:Y4)(qual:aj)(st:Yep)(ps:List aj):Prop:=∃f fd,uG K "__init__" qual st f fd/\Mk K C f/\Binds K fd ps []
def zj(P:bR)(w:bJ)(K:Yb)(mg:aj->Option Yh)(base:aR)(k:Nat)(C:Y4)(ps:List aj)(F:F3):Prop:=(∀ds M,ds.length≠ps.length->F ds M= .bad)/\∃f fd,Mk K C f/\Binds K fd ps []/\jO P w K mg base mU k f fd ps (uR K ps.length F)
section
variable {P:bR} {w:bJ} {K:Yb} {mg:aj->Option Yh} {base:aR} {C f:Y4} {m qual:aj} {st:Yep} {N ps:List aj} {k:Nat} {body:S3} {oc:Yh} {od an:Option Y4} {osl:Array (Option Yh)} {dV kV doc pm cdv ct:Yh}
theorem Zto(mk:Jh K C=true)(kc:tY K (.ref C)=true)(a:nJ K (.ref C) "__init__" =Ya (Ya (.ref f)))(i:Ji K (.ref f)=true)(l:K.lookup f=Ya ⟨oc,od,.func (rR "__init__" qual (cT st) (cH st) (Zk st) dV kV doc pm an cdv ct),osl⟩)(c:EY K cdv qual=true)(kp:tY K (.ref f)=true)(b:Binds K (rR "__init__" qual (cT st) (cH st) (Zk st) dV kV doc pm an cdv ct) ps []):Mr K C qual st ps:=⟨f,_,⟨⟨oc,od,dV,kV,doc,pm,an,cdv,ct,osl,rfl,l,c⟩,kp⟩,⟨mk,a,i,kc⟩,b⟩
theorem zj.of(d:Mr K C qual st ps)(S:dg N ps (Zk st))(hb:∀(f:Y4) (cdv:Yh) (A:bW) (outer:List gj) (s:Yl) (H:Hp) (E:XK),d9 k (A.deeper (pP qual (Zk st) s.heap.objs.size f cdv))->qd (uE mU P w K mg base N qual (Zk st) f cdv A outer s H E).yx (cH st) body):
  zj P w K mg base (k+1) C ps (bF ps.length N.length body):=by
 obtain⟨f,fd,F,mk,bi⟩:=d;exact⟨λds M h=>if_neg h,f,fd,mk,bi,T5 F S (hb f)⟩
end
theorem ZxD{X:Cx}{e:Expr}{es:List Expr}{gl:eQ}{c:List Nat}{C:Y4}{pos p:aZ}{x:aj}{k:Nat}{F:F3}(kc:zf X.K c C)(G:zj X.prog X.w X.K X.mg X.base k C ps F)(hm:X.mg x=Ya (.ref C))(hr:d9 (k+1) X.A)(ha:CA X (e::es) gl)(hg:autoParam (Gl X x) qA)(hdb:autoParam ((x==("__debug__":aj))=false) qB)(he:autoParam (Yz (e::es) X.env=(false,aM e X.env)::Yz es X.env) qA)(hpl:autoParam ((cN pos (Yz es X.env)).any (·.1)=false) qA):C3 X (.Call (.Name x p) (e::es) [] pos) (Cd c F gl):=by obtain⟨hF,f,fd,mk,bi,ok⟩:=G;exact Zv3 ⟨kc.aq,kc.nz⟩ mk hF ok bi hm hr ha hg hdb he hpl
noncomputable def Cv(K:Yb)(d:List aj)(v:Yh):Bool:=match v with
 | .ref a=>(match K.lookup a with
  |some o=>o.cls== .type "tuple" &&o.dict.isNone&&(match o.data with| .seq vs _=>decide (vs.size<=1000)&&KTD.strsLook vs.toList d|_=>false)
  |none=>false)
 |_=>false
noncomputable def Zyp(t:Lk):List (aj×List aj):=t.map λp=>(⟨p.1.toArray⟩,p.2.map λy=>⟨y.toArray⟩)
def Zyb(K:Yb)(d:List aj)(v:Yh):Prop:=∃a,v= .ref a/\∀H,cW K H a (d.map V.str)
theorem ZpN:∀{vs:List Yh} {d:List aj},StrsAre vs d->Vals (d.map V.str) vs:=by
 intro vs d h
 induction h with
 |nil=>exact .nil|cons _ _ _ ih=>exact .cons ⟨_,rfl⟩ ih
theorem Zo9{d:List aj}{v:Yh}(h:Cv K d v=true):Zyb K d v:=by
 unfold Cv at h;split at h
 .rename_i a;refine⟨a,rfl,λH=>?_⟩;split at h
  .rename_i o ho;simp only[Y6]at h;obtain⟨⟨h1,h2⟩,h3⟩:=h;split at h3
   .rename_i vs n hd;simp only[Y6,decide_eq_true_eq]at h3;exact .inr ⟨o,vs,n,ho,⟨beq_iff_eq.mp h1,by simpa using h2⟩,hd,Yi h3.1 (by rw[Ao];decide),ZpN (KTD.strs_of_look h3.2)⟩
   .cases h3
  .cases h
 .cases h
abbrev Zxz(K:Yb)(a:Y4)(t:Lk):Prop:=KTD.tabLook (Cv K) (λb=>K.lookup b) a (Zyp t)=true
theorem Zxz.at{a:Y4}{t:Lk}{h:aR}(T:Zxz K a t)(X:K.In h):qM (Zyb K) h a (Zyp t):=Ymd (λ_ _ q=>Zo9 q) X T
theorem ZmO{K:Yb}{H:Hp}{ι:List Y4}:∀ds:List (List Nat),au K H ι (ds.map D.str) ((ds.map λy=>(⟨y.toArray⟩:aj)).map V.str)
 |[]=>au.nil|_::ds=>au.cons Rep.str (ZmO ds)
section
variable {prog:bR} {w:bJ} {A:bW} {E:Yh->Yl->Prop} {s:Yl} {a:Y4} {K:Yb} {t:Lk} {x:List Nat} {tk:gw}
theorem tG{δ:Type}{R:δ->Yh->Prop}{T:List (aj×δ)}(h:qM R s.heap a T):s.TypeIs (.ref a) "dict":=let⟨_,o,_,_,ho,hc,_⟩:=h;⟨o,ho,hc.1⟩
theorem U4{δ:Type}{R:δ->Yh->Prop}{T:List (aj×δ)}{k:aj}{Q:Option Yh->Yl->Prop}(h:qM R s.heap a T)(hs:∀d v,oY k T=Ya d->R d v->Q (Ya v) {s with toks:=s.toks+1})(hn:oY k T=Ym->Q Ym {s with toks:=s.toks+1}):ao (aB prog w) A (vX a (.str k tk)) Q E s:=by
 obtain⟨_,o,es,ep,ho,hc,hd,hr⟩:=h;unfold vX
 try with_reducible refine iD ?_
 refine Yg (Ylh (Yg (KTD.kt_dictFind_strs (s:={s with toks:=s.toks+1}) ho hd (by obtain⟨es⟩:=es;simpa using hr.exact) ?_)));have key:Q (findBy (λq v=>v.isStr q) es k) {s with toks:=s.toks+1}:=by
  rw[show findBy (λq v=>v.isStr q) es k=(es.toList.find? λz=>z.key.isStr k).map (·.val)by obtain⟨es⟩:=es;simp[findBy]];cases e:oY k T with
  |none=>rw[hr.find_none e];exact hn e|some d=>obtain⟨v,hv,r⟩:=hr.find_some e;rw[hv];exact hs d v e r
 rw[findBy_of_findIdx?]at key;cases e:es.findIdx? λz=>z.key.isStr k with
 |none=>rw[e]at key;exact Yv key|some j=>rw[e]at key;exact Yg (Yk1 (s:={s with toks:=s.toks+1}) ho hd (Yv key))
end
open AutoSeq1 (wpAny_loadPart')
set_option maxRecDepth 100000
theorem Zmk{prog:bR}{A:bW}{it:Y4}{fp:List Y4}{n:Nat}{P:Nat->Yh->Prop}{St:Nat->aR->Prop}(D:Draws prog w A it fp n P St):
  Draws prog w A it fp (n+1) (λi v=>P (i-1) v) (λi h=>∃j,i=j+1/\St j h)where
 live:=λi h ⟨j,_,st⟩=>D.live j h st
 frame:=λi h h' ⟨j,e,st⟩ hk=>⟨j,e,D.frame j h h' st hk⟩
 item:=λi s Q E hi st hQ=>by obtain⟨j,rfl,st⟩:=st;exact D.item j s Q E (Nat.lt_of_succ_lt_succ hi) st λx h' tk hp st' hs=>hQ x h' tk hp ⟨j+1,rfl,st'⟩ hs
 done:=λs Q E st hE=>by obtain⟨j,e,st⟩:=st;cases RL e;exact D.done s Q E st hE
theorem Znk(l:Y4)(items:Array Yh)(n:Nat)(dct:Option Y4)(sl:Array (Option Yh))(t:gw):
  Meets (Builtin.«enumerate.__new__» ⟨[.type "enumerate",.ref l],[("start",.int 1 t)]⟩) (λ_ R s=>s.heap.get? l=Ya {cls:=.type "list",dict:=dct,data:=.seq items n,slots:=sl}/\
   R (.ok (.ret (.ref (s.heap.push {cls:=.type "list_iterator",data:=.fields #[.ref l,.int 0 0]}).objs.size)))
    {s with heap:=(s.heap.push {cls:=.type "list_iterator",data:=.fields #[.ref l,.int 0 0]}).push {cls:=.type "enumerate",data:=.fields #[.none,.bool false,.ref s.heap.objs.size,vY 1,.none,.none]}}):=
 .of_wp λprog w A R s h=>by
  obtain⟨hp,g,d,tk,os⟩:=s;obtain⟨hl,h⟩:=h;have hsub:=sub_enumerate;have hL:Heap.IsList (Shared.heap ⟨hp,g,d,tk,os⟩) l items:=⟨_,hl,rfl,n,rfl⟩
  wp_walk using rW hl
  refine Ymc λst=>Yv ?_;split
  .rename_i c _ _ _ _ _;cases(c==Value.type "enumerate")
   .wp_walk using rW hl,vN hL
    exact⟨_,rfl,h⟩
   .wp_walk using rW hl,vN hL
    exact⟨_,rfl,h⟩
  .wp_walk using rW hl,vN hL
   exact⟨_,rfl,h⟩
theorem ZnI(a b:Yh):checkTypeCall "enumerate" ⟨[a],[("start",b)]⟩=pure ():=by kernel_rfl
theorem ZpW(a b:Yh):Yls "enumerate.__new__" ⟨[.type "enumerate",a],[("start",b)]⟩=pure ():=by kernel_rfl
theorem Zow(o a b:Yh):argsOk "object.__init__" ⟨[o,a],[("start",b)]⟩:=by unfold argsOk;rw[signature?_of (id:="object.__init__") (n:=['_','_','t','i','n','i','_','_']) (o:=['t','c','e','j','b','o']) (by kernel_rfl) F.owner_object];kernel_rfl
theorem ZmU{self a b:Yh}:Meets (Builtin.«object.__init__» ⟨[self,a],[("start",b)]⟩) (λ_ R s=>s.TypeIs self "enumerate" /\R (.ok (.ret .none)) s):=by
 have hl:=F.called_enumerate.init.lookup;have hm:=F.called_enumerate.made;refine Meets.of_wp λprog w A R s hs=>?_;obtain⟨hT,hq⟩:=hs
 repeat(any_goals(first|assumption|wp_step))
 exact⟨_,rfl,hq⟩
theorem Zod{prog:bR}{A:bW}{E:Yh->Yl->Prop}{s:Yl}{l:Y4}{items:Array Yh}{t:gw}{Q:Yh->Yl->Prop}(hL:s.heap.IsList l items)(h:∀h',ye h' (s.heap.objs.size+1) s.heap.objs.size 1 .none->h'.IsListIter s.heap.objs.size l 0->(∀b o,s.heap.get? b=Ya o->h'.get? b=Ya o)->Q (.ref (s.heap.objs.size+1)) {s with heap:=h'}):
  ao (aB prog w) A (call (.type "enumerate") [.ref l] [("start",.int 1 t)]) Q E s:=by
 obtain⟨⟨c,dct,dt,sl⟩,hl,hc,n,hd⟩:=hL;replace hc:c= .type "list":=hc;replace hd:dt= .seq items n:=hd;subst hc hd;have ft:=Yki;obtain⟨c,tl,hmro⟩:=ft.mro;have hmade:=ft.made;have hsub:=ft.sub;have hct:=ZnI (.ref l) (.int 1 t);have hcn:=ZpW (.ref l) (.int 1 t);refine Fq (Yme (show ao _ _ (callAny (.type "enumerate") _) _ _ _ from ?_));refine Yv ⟨Ykj _ (by decide +kernel),xY F.entry_type_call (?_)⟩;rw[Ykk (Yit _ _ _) (units_type_call_type _ _ _)];have h1:=ft.notType;have h2:=ft.canCreate
 repeat(any_goals(first|assumption|wp_step))
 have hz:(s.heap.push {cls:=.type "list_iterator",data:=.fields #[.ref l,.int 0 0]}).objs.size=s.heap.objs.size+1:=yg ..;have g0:=Znk l items n dct sl t prog w A.in1 (wants (λobj s₁=>s₁.TypeIs obj "enumerate" /\Q obj s₁) E) s ⟨hl,by
  show _/\_;rw[hz];have he:ye ((s.heap.push {cls:=.type "list_iterator",data:=.fields #[.ref l,.int 0 0]}).push {cls:=.type "enumerate",data:=.fields #[.none,.bool false,.ref s.heap.objs.size,vY 1,.none,.none]}) (s.heap.objs.size+1) s.heap.objs.size 1 .none:=by have q:=Y5 (s.heap.push {cls:=.type "list_iterator",data:=.fields #[.ref l,.int 0 0]}) (o:={cls:=.type "enumerate",data:=.fields #[.none,.bool false,.ref s.heap.objs.size,vY 1,.none,.none]}) rfl;rw[hz]at q;exact q
  exact⟨⟨_,he,rfl⟩,h _ he ⟨_,Yn _ (Y5 _ rfl),rfl,rfl⟩ λb o x=>Yn _ (Yn _ x)⟩⟩
 refine vQ (Jw ft.plain Yir (JC hcn g0)) λr s₁ hr=>?_;cases r with
 |error e=>exact hr|ok fl=>
  cases fl with
  | ret obj=>
   obtain⟨hT,hq⟩:=hr;have hli:=ft.init.lookup;have hbi:=ft.init.bind obj
   repeat(any_goals(first|assumption|wp_step))
   refine vQ (Jw ft.init.plain F.entry_object_init (ft.init.check _ _ _ _ _ _ _ _ hT (Zow obj _ _) (ZmU prog w A.in1 (wants (λr s₂=>r= .none/\Q obj s₂) E) s₁ ⟨hT,rfl,hq⟩))) λr₂ s₂ U5=>?_;cases r₂ with
   |error e=>exact U5|ok fl₂=>
    cases fl₂ with
    |ret r=>
     obtain⟨rfl,hq⟩:=U5
     repeat(any_goals(first|assumption|wp_step))
    |_=>exact U5.elim
  |_=>exact hr.elim
noncomputable def ZxR(S:Hp->List V->Prop):It:=⟨λi H=>∃xs x,S H xs/\xs[i]?=Ya x,λi H x H'=>∃A a,x= .ref A/\H A=Ym/\H'=upd H A (.tup [.int ((i+1:Nat):Int),a])/\∀xs,S H xs->xs[i]?=Ya a,
 λi H=>∃xs,S H xs/\xs.length<=i⟩
theorem Znw{P:bR}{es:List Expr}{k:Nat}{pos:aZ}(a e it:Y4)(hne:e≠it):
  Turn P w K (.Tuple es k pos) (ZxR λH xs=>bM K H a xs) [e,it] e (λi h=>(∃old,ye h e it ((i+1:Nat):Int) old)/\h.IsListIter it a i)where
 mem:=by simp
 obj:=λi h st b hb=>by
  obtain⟨⟨old,he⟩,o,ho,c,d⟩:=st;simp only[Yo,qD,or_false]at hb;rcases hb with rfl|rfl
  .exact⟨_,he,λv z=>by cases z⟩
  .exact⟨o,ho,λv z=>by rw[d]at z;cases z⟩
 keep:=λi h h' st k=>by obtain⟨⟨old,he⟩,hit⟩:=st;exact⟨⟨old,k e (by simp) _ he⟩,hit.at λo q=>k it (by simp) o q⟩
 item:=by
  intro X hP hw hK hc i pins s σ H E I hf st hg;subst hP hw hK;obtain⟨xs,x,hq,hx⟩:=hg;obtain⟨its,rv,p,hz⟩:=I.list hq;obtain⟨u,hu,ru⟩:=rv.get hx;obtain⟨⟨old,he⟩,hit⟩:=st;have hel:=Y7 he;have hil:it<s.heap.objs.size:=by obtain⟨o,ho,_⟩:=id hit;exact Y7 ho
  have UL:e≠a:=by rintro rfl;obtain⟨o,ho,hc,_⟩:=p.isList;rw[he]at ho;cases ho;exact absurd hc (by simp)
  have hai:a≠it:=by rintro rfl;obtain⟨o,ho,hc,_⟩:=p.isList;obtain⟨o',ho',hc',_⟩:=hit;rw[ho']at ho;cases ho;rw[hc']at hc;exact absurd hc (by simp)
  have D:=Zmk (Draws.list (prog:=X.prog) (w:=X.w) (A:=X.A.in1) (I.ok.hd hc) it a hai its.toArray);refine Yhi (i:=i+1) D he ⟨i,rfl,hit,p.isList⟩ (by simpa using(Ye.mp hu).1) hne (by simp[hne,UL]) λy h' tk hy ho hst hT hsz hk=>?_;have ey:y=u:=by
   have q:its.toArray[i]?=Ya u:=by simpa using hu
   have hy':its.toArray[i]?=Ya y:=hy;rw[q]at hy';cases hy';rfl
  subst ey;refine⟨_,rfl,Qt (s:={s with heap:=h',toks:=tk+1}) ho λh'' Ey hs''=>?_⟩;obtain⟨I2,n2⟩:=UJ (i:=i+1) (x:=x) (tk':=tk+1) I hf hel hil ru hT hk hs'';obtain⟨j,ej,hst,_⟩:=hst;cases RL ej;exact⟨.ref s.heap.objs.size,_,I2,rfl,⟨_,x,rfl,I.hok.fresh (Yt _),rfl,λys hy=>by rw[I.O8 hy hq];exact hx⟩,⟨⟨_,by simpa using Ey⟩,hst.extBut hs''.extBut (dw hne)⟩,n2⟩
 done:=by
  intro X hP hw hK hc i pins s σ H E I hf st hg;subst hP hw hK;obtain⟨xs,hq,hx⟩:=hg;obtain⟨its,rv,p,hz⟩:=I.list hq;obtain⟨⟨old,he⟩,hit⟩:=st;have hl:=rv.length;have hT:s.TypeIs (.ref e) "enumerate":=⟨_,he,rfl⟩;unfold ul;refine Yg (wpAny_attempt (xW (name:=qL "__next__") hT J8
   (vO J8 hT Yh2 (show ao _ _ (field (.ref e) 2>>=λo=>_) _ _ _ from ?_) (Yhj _))))
  refine Yg (uh he rfl (x:=.ref it) rfl (Yg ?_));refine wpAny_nextOf_list_end (I.ok.hd hc) hit p.isList (by simp;exact lC 2 2268279672881 T1 hl hx) λh' x he' hx'=>?_;obtain⟨o,ho,hc⟩:=hx';refine Yg (Ylr (T:="StopIteration") (b:=true) ⟨o,ho,hc⟩ isSubtype_stop (Yv ?_));exact⟨rfl,I.Iu (t':=s.toks) (λb o hb q=>he' b o (λz=>hb (by simp[z])) q) hf⟩
 self:=λ_ _ _ _ _ st h=>by obtain⟨⟨old,he⟩,_⟩:=st;exact Am he h
section
variable {X:Cx} {es:List Expr} {k:Nat} {a:Expr} {p pos tpos kp cp:aZ} {f:E3}
def ZtO(K:Yb)(ta:TA):TI:=λσ H R=>ta σ H λvs H1=>∃b,vs=[.ref b]/\∃xs,bM K H1 b xs/\R (ZxR λH xs=>bM K H b xs) H1
theorem Zlj{M:Model}{A:bW}{E:Yh->Yl->Prop}{s:Yl}{env:gj}{T:String}{e:Expr}{kws:List Keyword}{Q:Yh->Yl->Prop}(h:ao M A (JL (cN pos (Yz [e] env))) (λvs s₁=>ao M A (JN ((jc pos (i_ kws env)).map (·.2)))
   (λkvs s₂=>ao M A (call (.type T) vs (((jc pos (i_ kws env)).filterMap (·.1)).zip kvs)) Q E s₂) E s₁) E s)(he:cN pos (Yz [e] env)=[(false,aM e env)])(hall:(jc pos (i_ kws env)).all (·.1.isSome)=true)(hkw:(jc pos (i_ kws env)).any (·.1.isNone)=false):
  ao M A (JH pos (.type T) [] (cN pos (Yz [e] env)) (jc pos (i_ kws env))) Q E s:=by
 rw[he]at h ⊢;unfold JH;refine Yg (iD (j7 (Ygz (Q:=λa s₁=>ao M A (call (.type T) a.pos a.kw) Q E s₁) hall h) (λa s₁ h₁=>Yg (vP ?_)) λ_ _ x=>x));simp only[hkw,lR,List.any_nil,JZ];refine Yg (Yv (Yg ?_));exact j7 h₁ (λr s₂ hr=>Yg (iD (wpAny_point (Yv hr)))) λ_ _ x=>x
theorem Zre{ta:TA}{j}(hg:Gl X "enumerate")(hm:X.mg "enumerate" =Ym)(ha:PA X [a] ta)(he:cN pos (Yz [a] X.env)=[(false,aM a X.env)]):
  PI X (.Tuple es k tpos) (.Call (.Name "enumerate" p) [a] [⟨Ya "start",.Constant (.int 1) j cp,kp⟩] pos) (ZtO X.K ta):=by
 intro pins s σ H R I h;refine Ak (yw I hg hm boot_enumerate (Zlj (aJ (ha pos pins s σ H _ I h) λus s1 ak=>?_) he rfl rfl));obtain⟨vs,H1,I1,r1,q1⟩:=ak;refine aJ ((Zpi (nm:=Ya "start") (kpos:=kp) (R7 (j:=j) (pos:=cp) (i:=1)) ZrY) pos pins s1 σ H1 (λzs H'=>zs=[.int 1]/\H'=H1) I1 ⟨rfl,rfl⟩) λws s2 Hq=>?_;obtain⟨zs,H2,I2,rz,rfl,rfl⟩:=Hq;obtain⟨b,e,xs,hq,q⟩:=q1;subst e;cases r1 with
 | cons r rr=>
  cases rr
  cases r
  cases rz with
  | cons r' rr=>
   cases rr
   obtain⟨t,rfl⟩:=r';have fp:∀c∈[s2.heap.objs.size+1,s2.heap.objs.size],iU X pins H2 c:=λc hc=>by
    have hc':s2.heap.objs.size<=c:=by simp only[Yo,qD,or_false]at hc;rcases hc with rfl|rfl <;>omega
    exact I2.vB hc' (I2.hok.fresh hc')
   obtain⟨its,rv,pl,hz⟩:=I2.list hq;refine Zod (t:=t) pl.isList λh' hE hI hk=>?_;have I3:Inv X pins σ H2 {s2 with heap:=h'}:=I2.kept (t':=s2.toks) hk;exact Am (s:={s2 with heap:=h'}) hE ⟨_,[s2.heap.objs.size+1,s2.heap.objs.size],_,_,H2,rfl,I3,Znw b _ _ (Q0 _),⟨⟨_,hE⟩,hI⟩,fp,q⟩
theorem ZqI{j}(hm:X.mg "enumerate" =Ym)(h:C3 X a f)(hg:autoParam (Gl X "enumerate") qA)(he:autoParam (cN pos (Yz [a] X.env)=[(false,aM a X.env)]) qA)(hs':autoParam (Yz (a::[]) X.env=(false,aM a X.env)::Yz [] X.env) qA):
  CIL X (.Tuple es k tpos) (.Call (.Name "enumerate" p) [a] [⟨Ya "start",.Constant (.int 1) j cp,kp⟩] pos) (T3 f):=
 PI.imp (Zre hg hm (Zc h Ze hs') he) λσ H R ak=>by
  obtain⟨ι,M,env,S,E,h⟩:=ak;obtain⟨d,M1,e1,h⟩:=Cr.bind h;refine⟨ι,M,env,S,E,?_⟩;have e2:Zb f Zf env M= .ok [d] M1:=by unfold Zb;rw[e1];rfl
  rw[e2];intro vs H1 ι1 x1 S1 r1;obtain⟨v,ws,rfl,r,q⟩:=r1.cons_inv;have:=q.nil_inv;subst this;cases d with
  | ref n=>
   cases hm:M1[n]? with
   |none=>simp only[hm]at h;exact h.elim|some o=>
    cases o with
    | lst ds=>
     simp only[hm]at h;obtain⟨b,ha,rfl⟩:=r.dX;obtain⟨vs,q,r⟩:=S1.obj n _ b hm ha;refine⟨b,rfl,vs,bM.of q,h _ H1 ι1 x1 S1 ?_⟩;intro i H2 ι2 M2 x S2 lk;have G9:M2[n]?=Ya (.lst ds):=by simpa[jR]using lk
     obtain⟨vs2,q2,r2⟩:=S2.obj n _ b G9 (x.pre _ _ ha);refine⟨λd hd=>?_,λhl=>⟨vs2,bM.of q2,by rw[r2.length,hl,Lj];exact Yt _⟩⟩;rw[Li,mH 1 i]at hd;cases hq:ds[i]? with
     |none=>rw[hq]at hd;cases hd|some d0=>rw[hq]at hd;cases hd;obtain⟨v,hv,rv⟩:=r2.get hq;refine⟨⟨vs2,v,bM.of q2,hv⟩,λy H3 hy=>?_⟩;obtain⟨T,y',rfl,hT,rfl,hall⟩:=hy;have e:=hall vs2 (bM.of q2);rw[hv]at e;cases e;exact S2.vC hT (au.cons Rep.int (au.cons rv au.nil))
    |_=>simp only[hm]at h;exact h.elim
  |_=>exact h.elim
end
end _L3
namespace _L3
open PySem PySem.Spec PyProof.Rows _L2
noncomputable def Zx8(i:Int)(v:Yh):Bool:=match v with
 | .int j _=>decide (j=i)|_=>false
def ZxC(i:Int)(v:Yh):Prop:=∃t,v= .int i t
variable{i:Int}
theorem Zs6{v:Yh}(h:Zx8 i v=true):ZxC i v:=by
 cases v with
 |int j t=>exact⟨t,by rw[of_decide_eq_true (show decide (j=i)=true from h)]⟩|_=>exact ft h
noncomputable def Cw(t:lY):List (aj×Int):=t.map λp=>(⟨p.1.toArray⟩,p.2)
abbrev nC(K:Yb)(a:Y4)(t:lY):Prop:=KTD.tabLook Zx8 (λb=>K.lookup b) a (Cw t)=true
theorem nC.at{K:Yb}{a:Y4}{t:lY}{h:aR}(T:nC K a t)(X:K.In h):qM ZxC h a (Cw t):=Ymd (λ_ _ q=>Zs6 q) X T
theorem Cy(x:List Nat):∀t:lY,oY (⟨x.toArray⟩:aj) (Cw t)=dD x t
 |[]=>rfl|(k,v)::r=>by
  show(if decide ((⟨x.toArray⟩:aj)=⟨k.toArray⟩)=true then Ya v else oY ⟨x.toArray⟩ (Cw r))=(if x=k then Ya v else dD x r);by_cases e:x=k
  .subst e;rw[if_pos rfl,if_pos (decide_eq_true rfl)]
  .rw[if_neg e,if_neg (by simp[e]),Cy x r]
variable{Q:Yh->Yl->Prop}{δ:Type}
section
variable {prog:bR} {w:bJ} {A:bW} {E:Yh->Yl->Prop} {s:Yl} {a:Y4} {K:Yb} {tk:gw}
theorem Zr8{R:δ->Yh->Prop}{l:List DictEntry}{T:List (aj×δ)}(h:KTD.Rows R l T):∀e∈l,∃x t,e.key= .str x t:=by
 induction h with
 |nil=>intro e he;cases he|cons hk _ _ ih=>
  intro e he;rcases Yo.mp he with q|q
  .rw[q];exact⟨_,_,hk⟩
  .exact ih e q
theorem ZpQ{R:δ->Yh->Prop}{T:List (aj×δ)}{Q:Option Yh->Yl->Prop}(h:qM R s.heap a T)(hn:Q Ym {s with toks:=s.toks+1}):ao (aB prog w) A (vX a (.int i tk)) Q E s:=by
 obtain⟨_,o,es,ep,ho,hc,hd,hr⟩:=h;have hs:∀e∈es,∃x t,e.key= .str x t:=λe he=>Zr8 hr e (by simpa using he);unfold vX
 try with_reducible refine iD ?_
 refine Yg (Ylg (Yg ?_));unfold dictFind
 try with_reducible refine iD ?_
 refine Yg (Yk1 (s:={s with toks:=s.toks+1}) ho hd ?_);dsimp only;rw[if_pos]
 .unfold dictWalkPlain;refine Yg ?_;refine wpAny_forIn_list _ (λ_ b s'=>s'={s with toks:=s.toks+1}/\b=(Ym,())) _ ?_ ?_ _ _ ⟨rfl,rfl⟩
  .rintro x rest b s' ⟨rfl,rfl⟩;cases he:es[x]? with
   |none=>exact Yv ⟨rfl,rfl⟩|some e=>
    obtain⟨y,t,ek⟩:=hs e (Yiu he);dsimp only;by_cases hh:(e.hash==hashInt i)=true
    .rw[if_pos hh,ek];refine Yg (Ymf (s:={s with toks:=s.toks+1}) ho hd (Yg (Kd y t i tk prog w E _ (Yg (Ymf (s:={s with toks:=s.toks+1}) ho hd ?_)))));show ao _ _ (if(ep !=ep)=true then _ else _) _ E _;rw[if_neg (by simp)];exact Yg (JF (Yv ⟨rfl,rfl⟩))
    .rw[if_neg hh];exact Yv ⟨rfl,rfl⟩
  .rintro b s' ⟨rfl,rfl⟩;exact Yv (Yv hn)
 .rw[kW];refine v9.mpr ⟨rfl,iw.mpr λv hv=>?_⟩;obtain⟨j,_,hj⟩:=Qi.mp hv;cases he:es[j]? with
  |none=>rw[he]at hj;cases hj|some e=>
   rw[he]at hj;obtain rfl:e.key=v:=by simpa using hj
   obtain⟨y,t,ek⟩:=hs e (Yiu he);rw[ek];rfl
theorem Zon{R:δ->Yh->Prop}{T:List (aj×δ)}{k:aj}{z:Yh}:
  MeetsIn prog w (Builtin.«dict.get» ⟨[.ref a,.str k tk,z],[]⟩) λ_ Z s=>qM R s.heap a T/\(∀d v,oY k T=Ya d->R d v->Z (.ok (.ret v)) {s with toks:=s.toks+1})/\(oY k T=Ym->Z (.ok (.ret z)) {s with toks:=s.toks+1}):=
 .of_wp λA Z s zz=>by obtain⟨h,h1,h2⟩:=zz;show ao _ _ (vX a (.str k tk)>>=λo=>_) _ _ s;refine Yg (U4 h (λd v e r=>Yv ⟨v,rfl,h1 d v e r⟩) λe=>?_);show ao _ _ (Yj1 a (.str k tk)>>=λo=>_) _ _ _;exact Yg (Ykl h.1 (Yv ⟨z,rfl,h2 e⟩))
theorem Znp{R:δ->Yh->Prop}{T:List (aj×δ)}{z:Yh}:
  MeetsIn prog w (Builtin.«dict.get» ⟨[.ref a,.int i tk,z],[]⟩) λ_ Z s=>qM R s.heap a T/\Z (.ok (.ret z)) {s with toks:=s.toks+1}:=
 .of_wp λA Z s zz=>by obtain⟨h,h2⟩:=zz;show ao _ _ (vX a (.int i tk)>>=λo=>_) _ _ s;refine Yg (ZpQ h ?_);show ao _ _ (Yj1 a (.int i tk)>>=λo=>_) _ _ _;exact Yg (Ykl h.1 (Yv ⟨z,rfl,h2⟩))
theorem Zss{R:δ->Yh->Prop}{T:List (aj×δ)}{k:aj}{z:Yh}(h:qM R s.heap a T)(h1:∀d v,oY k T=Ya d->R d v->Q v {s with toks:=s.toks+1})(h2:oY k T=Ym->Q z {s with toks:=s.toks+1}):ao (aB prog w) A (call (.builtin "dict.get") [.ref a,.str k tk,z]) Q E s:=call_meetsIn Ro (tG h) Yh3 (Yhk _ _ _) (Zon (R:=R) (T:=T)) ⟨h,h1,h2⟩
theorem Zqu{R:δ->Yh->Prop}{T:List (aj×δ)}{z:Yh}(h:qM R s.heap a T)(h2:Q z {s with toks:=s.toks+1}):ao (aB prog w) A (call (.builtin "dict.get") [.ref a,.int i tk,z]) Q E s:=call_meetsIn Ro (tG h) Yh3 (Yhk _ _ _) (Znp (R:=R) (T:=T)) ⟨h,h2⟩
end
section
variable {X:Cx} {e e':Expr} {x:aj} {a:Y4} {t:lY} {npos apos cpos pos:aZ} {g g':E3}
inductive Zy4(t:lY)(y z:V)(H1:Hp)(Q:VK):Prop
 |str (k:List Nat) (e:y= .str ⟨k.toArray⟩) (s:∀i,dD k t=Ya i->Q (.int i) H1) (n:dD k t=Ym->Q z H1)
 |int (i:Int) (e:y= .int i) (n:Q z H1)
theorem Zq7{te te':TE}(hm:X.mg x=Ya (.ref a))(ht:nC X.K a t)(he:PE X e te)(he':PE X e' te')(m:M2 X (.Name x npos) "get" apos e e' cpos)(hg:Gl X x)(hd:(x==("__debug__":aj))=false):
  PE X (.Call (.Attribute (.Name x npos) "get" apos) [e,e'] [] cpos) (λσ H Q=>te σ H λy H1=>te' σ H1 λz H2=>Zy4 t y z H2 Q):=by
 intro pins s σ H Q I h;refine wpAny_Call_method m.base m.few m.line PySem.F.plainAttrs_dict Ro PySem.F.type_dict_get (aJ (Bo (v:=.ref a) (u:=.ref a) hg hm rfl hd pins s σ H (λv H'=>v= .ref a/\H'=H) I ⟨rfl,rfl⟩) λu s1 ak=>?_);obtain⟨v,H1,I1,r1,rfl,rfl⟩:=ak;obtain rfl:u=Value.ref a:=r1;have T1:=ht.at I1.fG;refine⟨tG T1,λb q=>?_,?_⟩
 .cases q
  obtain⟨_,ob,_,_,h1,h2,_⟩:=T1;exact⟨ob,h1,h2.2.1⟩
 rw[m.trees];refine RD rfl (Yi7 (RG (aJ (he pins s1 σ H1 _ I1 h) λiv s2 ⟨y,H2,I2,ry,q2⟩=>RG (aJ (he' pins s2 σ H2 _ I2 q2) λfv s3 ⟨z,H3,I3,rz,q3⟩=>Ykr ?_))));cases q3 with
 | str k ey hs hn=>
  rw[ey]at ry;obtain⟨tk,rfl⟩:=ry;refine Zss (ht.at I3.fG) (λd v ed rv=>?_) λed=>?_
  .rw[Cy]at ed;obtain⟨t',rfl⟩:=rv;exact⟨.int d,H3,I3.tok _,⟨t',rfl⟩,hs d ed⟩
  .rw[Cy]at ed;exact⟨z,H3,I3.tok _,rz,hn ed⟩
 |int i ey hn=>rw[ey]at ry;obtain⟨tk,rfl⟩:=ry;exact Zqu (ht.at I3.fG) ⟨z,H3,I3.tok _,rz,hn⟩
theorem ZoP(hm:X.mg x=Ya (.ref a))(ht:nC X.K a t)(he:C3 X e g)(he':C3 X e' g')(m:M2 X (.Name x npos) "get" apos e e' cpos:=by exact⟨rfl,rfl,rfl,rfl⟩)(hg:autoParam (Gl X x) qA)(hd:autoParam ((x==("__debug__":aj))=false) qB):
  C3 X (.Call (.Attribute (.Name x npos) "get" apos) [e,e'] [] cpos) (e2 (uM t) g g'):=(Zq7 hm ht he he' m hg hd).imp λσ H Q ak=>by
 obtain⟨ι,M,env,S,E,h⟩:=ak;obtain⟨d,M1,e1,h⟩:=Zv.bind h;obtain⟨d2,M2,e2,h⟩:=Zv.bind h;refine⟨ι,M,env,S,E,?_⟩;rw[e1];intro y H1 ι1 x1 S1 r1;refine⟨ι1,M1,env,S1,E.mono x1,?_⟩;rw[e2];intro z H2 ι2 x2 S2 r2;have h:=(h.up x1).up x2;cases d with
 | str k=>
  cases r1.str_inv
  refine .str k rfl (λi ei=>?_) λen=>?_
  .have h:Zv X.K H2 ι2 Q (match dD k t with|some i=>.ok (.int i) M2|none=>.ok d2 M2):=h
   rw[ei]at h;exact Zv.ok h S2 Rep.int
  .have h:Zv X.K H2 ι2 Q (match dD k t with|some i=>.ok (.int i) M2|none=>.ok d2 M2):=h
   rw[en]at h;exact Zv.ok h S2 r2
 |int i=>
  cases r1.int_inv
  exact .int i rfl (Zv.ok h S2 r2)
 |_=>exact h.elim
end
section
variable {X:Cx} {pos:aZ}
theorem Ztf{x:aj}{a:Y4}{ds:List (List Nat)}(hm:X.mg x=Ya (.ref a))(ht:Cv X.K (ds.map λy=>(⟨y.toArray⟩:aj)) (.ref a)=true)(hg:autoParam (Gl X x) qA)(hd:autoParam ((x==("__debug__":aj))=false) qB):C3 X (.Name x pos) (eC (.tup (ds.map D.str))):=by obtain⟨b,eb,sq⟩:=Zo9 ht;cases eb;exact uO (v:=.ref a) hm rfl (λH ι=>Rep.tup (sq H) (ZmO ds)) hg hd
theorem Zni:aO X (d7 .NotIn) (r2 X.K uN):=by
 intro pins s σ H x y v u Q I rx ry ⟨ι,M,a,b,S,ra,rb,h⟩;unfold uN at h;cases b with
 | ref n=>
  cases hn:M[n]? with
  |none=>simp only[hn]at h;exact h.elim|some ob=>
   cases ob with
   |dct _=>simp only[hn]at h;exact h.elim|cV _=>simp only[hn]at h;exact h.elim|ins _ _=>simp only[hn]at h;exact h.elim|lst ds=>
    simp only[hn]at h;by_cases hf:(cJ a&&ds.all cJ)=true
    .rw[if_pos hf]at h;rw[Y6]at hf;obtain⟨p,hp,rfl⟩:=rb.dX;cases ry;obtain⟨vs,e1,r1⟩:=S.obj n _ p hn hp;obtain⟨its,rvs,pl,_⟩:=I.list (bM.of e1);have he:∀y,y∈its.toArray->sy X.A.in1 s y v (dh (Cu y) a):=λy hy=>by
      have hy:y∈its:=by simpa using hy
      obtain⟨j,hj⟩:=Jp hy;have hjl:j<vs.length:=by rw[rvs.length];exact(Ye.mp hj).1
      obtain⟨w,hw,lg⟩:=rvs.get (Y3 hjl);rw[hj]at hw;cases hw;have Hl:j<ds.length:=by rw[←r1.length];exact hjl
      obtain⟨z,hz,rz⟩:=r1.get (Y3 Hl);rw[Y3 hjl]at hz;cases hz;have hfl:=iw.mp hf.2 _ (t8 Hl);rw[UT hfl rz lg];exact Ly X.A.in1 ds[j] a _ x y v hfl hf.1 rz ra lg rx
     refine Ykf (λy=>dh (Cu y) a) pl.isList he ⟨.bl (!ds.any λy=>dh y a),H,I,?_,h _ H ι Ext.refl S Rep.bl⟩;show(.bool _:Yh)= .bool _;rw[UV r1 rvs hf.2];simp
    .rw[if_neg hf]at h;exact h.elim
 |_=>exact h.elim
end
variable{M:Store}
noncomputable section
noncomputable def qm(q q':D->D->Store->R3 D)(f g h:E3):E3:=λenv M=>(f env M).bind λa M1=>(g env M1).bind λb M2=>(q a b M2).bind λc M3=>match c with
 | .bl true=>(h env M3).bind λd M4=>q' b d M4|.bl false=>.ok (.bl false) M3|_=>.bad
theorem ZpX(is:List Int):mY (is.map D.int)=Ya is:=by
 induction is with
 |nil=>rfl|cons i is ih=>show(mY (is.map D.int)).map _=_;rw[ih];rfl
noncomputable def wU(k:Int):List Int->Int
 |[]=>k|a::r=>r.foldl (λm x=>if x>m then x else m) a
noncomputable def Cz(k:Int)(ds:List D)(M:Store):R3 D:=match ds with
 |[.ref n]=>yX M[n]? λxs=>wI ((mY xs).map λis=>D.int (wU k is)) λd=>.ok d M|_=>.bad
theorem Znq{k:Int}{n:Nat}{is:List Int}(h:M[n]?=Ya (.lst (is.map D.int))):Cz k [.ref n] M= .ok (.int (wU k is)) M:=by show yX M[n]? _=_;rw[h];show wI ((mY (is.map D.int)).map λis=>D.int (wU k is)) _=_;rw[ZpX];rfl
theorem Zkz(xs:List (List Nat)):iI (xs.map D.str)=Ya xs:=by
 induction xs with
 |nil=>rfl|cons x xs ih=>show(iI (xs.map D.str)).map _=_;rw[ih];rfl
noncomputable def unlike:List (List Nat)->List (List Nat)->List (List Nat)
 |acc,[]=>acc|acc,x::r=>unlike (if acc.contains x then acc else acc++[x]) r
noncomputable def Ms(ds:List D)(M:Store):R3 D:=match ds with
 |[.ref n]=>yX M[n]? λxs=>wI ((iI xs).map λss=>D.int ((unlike [] ss).length:Int)) λd=>if xs.length<=20 then .ok d M else .bad|_=>.bad
theorem Zn7{n:Nat}{xs:List (List Nat)}(h:M[n]?=Ya (.lst (xs.map D.str)))(hl:xs.length<=20):Ms [.ref n] M= .ok (.int ((unlike [] xs).length:Int)) M:=by show yX M[n]? _=_;rw[h];show wI ((iI (xs.map D.str)).map λss=>D.int ((unlike [] ss).length:Int)) _=_;rw[Zkz];show(if(xs.map D.str).length<=20 then R3.ok _ M else .bad)=_;rw[Yu,if_pos hl]
theorem ZhU:∀{xs acc:List (List Nat)},(acc++xs).Nodup->unlike acc xs=acc++xs
 |[],acc,_=>(kO acc).symm|x::r,acc,h=>by
  have hx:acc.contains x=false:=by rw[List.contains_eq_mem,decide_eq_false_iff_not];intro hm;exact(Ag.mp h).2.2 x hm x Yc rfl
  show unlike (if acc.contains x then acc else acc++[x]) r=_;rw[hx,if_neg (by decide),ZhU (by rw[gM];exact h),gM];rfl
end
noncomputable section
noncomputable def uU(t:lY)(d:D)(M:Store):R3 D:=match d with
 | .str x=>.ok (.bl (dD x t).isSome) M|_=>.bad
noncomputable def Mt(t:lY)(d:D)(M:Store):R3 D:=match d with
 | .str x=>.ok (.bl (!(dD x t).isSome)) M|_=>.bad
noncomputable def Hr(t:lY)(d:D)(M:Store):R3 D:=match d with
 | .str x=>(match dD x t with
  |some i=>.ok (.int i) M|none=>.bad)
 |_=>.bad
end
noncomputable section
noncomputable def rC(a b:D)(M:Store):R3 D:=match a,b with
 | .ref n,.ref m=>(match M[n]?,M[m]? with
  |some (.lst x),Ya (.lst [])=>.ok (.bl (!x.isEmpty)) M|_,_=>.bad)
 |_,_=>.bad
theorem ZrE{n m:Nat}{x:List D}(h:M[n]?=Ya (.lst x))(k:M[m]?=Ya (.lst [])):rC (.ref n) (.ref m) M= .ok (.bl (!x.isEmpty)) M:=by simp only[rC,h,k]
end
noncomputable section
noncomputable def wV(o:D)(ds:List D)(M:Store):R3 D:=match o,ds with
 | .str sep,[.tup z]=>(match iI z with
  |some ts=>if lG sep ts<=SZ then .ok (.str (glue sep ts)) M else .bad|none=>.bad)
 |_,_=>.bad
theorem Zqj{sep:List Nat}{ts:List (List Nat)}(h:lG sep ts<=SZ):wV (.str sep) [.tup (ts.map D.str)] M= .ok (.str (glue sep ts)) M:=by simp only[wV,Zkz,if_pos h]
end
section
variable {X:Cx} {a b c:Expr} {f g h:E3} {pos:aZ}
theorem Zr0{op op':CmpOp}{q q':D->D->Store->R3 D}(ho:aO X (d7 op) (r2 X.K q))(ho':aO X (d7 op') (r2 X.K q'))(ha:C3 X a f)(hb:C3 X b g)(hc:C3 X c h)(hm:autoParam (lastMarks [op,op'] [b,c]=false) qA):CT X (.Compare a [op,op'] [b,c] pos) (qm q q' f g h):=
 (Zsb ho ho' ha hb hc hm).imp λσ H Q ak=>by
  obtain⟨ι,M,env,S,E,hh⟩:=ak;obtain⟨da,M1,e1,hh⟩:=nq.bind hh;refine⟨ι,M,env,S,E,?_⟩;rw[e1];intro v H1 ι1 x1 S1 r1;obtain⟨db,M2,e2,hh⟩:=nq.bind hh;refine⟨ι1,M1,env,S1,E.mono x1,?_⟩;rw[e2];intro u H2 ι2 x2 S2 r2;obtain⟨dc,M3,e3,hh⟩:=nq.bind hh;refine⟨ι2,M2,da,db,S2,r1.mono x2,r2,?_⟩;rw[e3];intro w H3 ι3 x3 S3 r3;cases dc with
  | bl k=>
   refine⟨k,r3.gY,?_⟩;cases k with
   |true=>rw[if_pos rfl];obtain⟨dd,M4,e4,hh⟩:=nq.bind hh;refine⟨ι3,M3,env,S3,E.mono ((x1.trans x2).trans x3),?_⟩;rw[e4];intro w' H4 ι4 x4 S4 r4;exact⟨ι4,M4,db,dd,S4,r2.mono (x3.trans x4),r4,G7 (hh.up (((x1.trans x2).trans x3).trans x4))⟩|false=>rw[if_neg (by decide)];exact⟨false,rfl,hh H3 ι3 ((x1.trans x2).trans x3) S3⟩
  |_=>exact hh.elim
end
set_option maxRecDepth 100000
theorem Zoq(a d:Yh):Yls "max" ⟨[a],[("default",d)]⟩=pure ():=by kernel_rfl
theorem Mu:(FZ "max" ++FZ ".loop":String)= "max.loop":=by decide
variable{E:Yh->Yl->Prop}
theorem ZtW{prog:bR}{w:bJ}{A:bW}{s:Yl}{a b:Int}{t u:gw}(h:Q (.bool (decide (a>b))) s):ao (aB prog w) A (richCompare .Gt (.int a t) (.int b u)) Q E s:=
 CmpOf.ints_gt (P:=λi v=>if i=0 then v= .int a t else v= .int b u) (λi=>if i=0 then a else b) (λi v hv=>by
  by_cases c:i=0
  .rw[if_pos c]at hv ⊢;exact⟨t,hv⟩
  .rw[if_neg c]at hv ⊢;exact⟨u,hv⟩) 0 1 _ _ s Q E rfl rfl h
theorem ZqT{vs:List Yh}{ns:List Int}(h:IntsAre vs ns):vs.length=ns.length:=by
 induction h with
 |nil=>rfl|cons n t _ ih=>rw[Yk,Yk,ih]
section
variable {prog:bR} {w:bJ} {A:bW} {R:um->Yl->Prop} {I L S:Y4} {vs:List Yh} {ns:List Int} {dv:Yh}
theorem Ztq(hh:A.in1.handled=Ym)(hLI:L≠I)(hSI:S≠I)(CJ:S≠L)(hi:IntsAre vs ns):∀(k j:Nat) (m:Int) (s:Yl) (tb:gw) (c:Nat),vs.length-(j+1)=k->j+1<=vs.length->s.heap.IsListIter I L (j+1)->s.heap.IsList L vs.toArray ->
  s.heap.get? S=Ya {cls:=.type "list",dict:=Ym,data:=.seq #[.int m tb,.int m tb] c,slots:=#[]} ->
  (∀h' t tk,(∀b o,b≠I->b≠S->s.heap.get? b=Ya o->h'.get? b=Ya o)->R (.ok (.ret (.int ((ns.drop (j+1)).foldl (λm x=>if x>m then x else m) m) t))) {s with heap:=h',toks:=tk}) ->
  nR (aB prog w) A (.builtin "max.loop" ⟨[.ref I,.none,.ref S],[("default",dv)]⟩) R s:=by
 have W:=Ke (prog:=prog) (w:=w) (A:=A.in1) hh I L hLI vs.toArray;have len:ns.length=vs.length:=(ZqT hi).symm;intro k
 induction k with
 |zero=>
  intro j m s tb c hk hj hst hL hS hR;have hin:vs.toArray.size=j+1:=by rw[Yq];omega
  refine xY Ru ?_;rw[FT yo _];refine Yg (Fl hS rfl ?_);refine Yg (Fo (W.done s _ _ (hin▸⟨hst,hL⟩) λh' tk hk'=>?_));have hS':=hk' S _ (by simp[hSI]) hS;refine Yg ?_;refine Qy hS' rfl (Yg (JD (Yv ?_)));have e:ns.drop (j+1)=[]:=Jm (by omega);rw[e]at hR;exact hR _ tb _ λb o h1 h2 q=>(uq _ _ (dw h2)).trans (hk' b o (by simp[h1]) q)
 | succ k ih=>
  intro j m s tb c hk hj hst hL hS hR;have hlt:j+1<vs.length:=by omega
  refine xY Ru ?_;rw[FT yo _];refine Yg (Fl hS rfl ?_);refine Yg (Fo (W.item (j+1) s _ _ (by rw[Yq];exact hlt) ⟨hst,hL⟩ λv h' tk hP hst' hk'=>?_));have hS':=hk' S _ (by simp[hSI]) hS;obtain⟨x,t,hx,rfl⟩:∃x t,ns[j+1]?=Ya x/\v= .int x t:=by rw[Yiw]at hP;obtain⟨x,t,e,hx⟩:=hi.at (j+1) v hP;exact⟨x,t,hx,e⟩
  have ed:ns.drop (j+1)=x::ns.drop (j+1+1):=by have hl:j+1<ns.length:=(Ye.mp hx).1;rw[Ad hl,(Ye.mp hx).2]
  rw[ed,jG]at hR;refine Yg (Yv ?_);refine Yg (Fo (iD (Yg (ZtW ?_))));refine Yg (iD (qF ?_));refine Yg (JD (Yv ?_));by_cases hb:x>m
  .rw[if_pos hb]at hR;rw[decide_eq_true hb];simp only[if_true];refine Yg ?_;refine Qy hS' rfl (Yg (JD ?_));rw[Mu];refine Yv ⟨Fp yo _,ih (j+1) x _ t _ (by omega) hlt (hst'.1.at λo e=>(uq _ _ hSI).trans e) (hst'.2.at λo e=>(uq _ _ CJ).trans e) (JW _ hS' rfl) λh'' t' tk' hk''=>?_⟩;exact hR h'' t' tk' λb o h1 h2 q=>hk'' b o h1 h2 ((uq _ _ (dw h2)).trans (hk' b o (by simp[h1]) q))
  .rw[if_neg hb]at hR;rw[decide_eq_false hb];simp only[Ba,if_false];refine Yg (JD ?_);rw[Mu];refine Yv ⟨Fp yo _,ih (j+1) m _ tb c (by omega) hlt hst'.1 hst'.2 hS' λh'' t' tk' hk''=>?_⟩;exact hR h'' t' tk' λb o h1 h2 q=>hk'' b o h1 h2 (hk' b o (by simp[h1]) q)
end
section
variable {prog:bR} {w:bJ} {A:bW} {E:Yh->Yl->Prop} {s:Yl} {L:Y4} {vs:List Yh} {ns:List Int} {k:Int} {td:gw}
theorem ZpZ(hh:A.handled=Ym)(hL:s.heap.IsList L vs.toArray)(hi:IntsAre vs ns)(h:∀h' t tk,(∀b o,s.heap.get? b=Ya o->h'.get? b=Ya o)->Q (.int (wU k ns) t) {s with heap:=h',toks:=tk}):ao (aB prog w) A (call (.builtin "max") [.ref L] [("default",.int k td)]) Q E s:=by
 have hh1:A.in1.handled=Ym:=hh;have hlt:L<s.heap.objs.size:=by obtain⟨_,e,_⟩:=hL;exact Y7 e
 refine Fq (Jw F.plain_max F.entry_max (JC (Zoq _ _) ?_));refine Yg (JC (show Builtin.Builtins.bindParams "max" ["key","default"] 0 ⟨[],[("default",.int k td)]⟩=pure [Ym,Ya (.int k td)]from rfl) ?_);refine Yg (Yv ?_);refine Yg (vN hL ?_);refine Yg (ug ?_);rw[Mu]
 let h1:=s.heap.push {cls:=.type "list_iterator",data:=.fields #[.ref L,.int 0 0]}
 let h2:=h1.push {cls:=.type "list",data:=.seq #[]}
 have e1:h1.objs.size=s.heap.objs.size+1:=yg ..;have up:∀b o,s.heap.get? b=Ya o->h2.get? b=Ya o:=λb o q=>Yn _ (Yn _ q);have hI:h2.IsListIter s.heap.objs.size L 0:=⟨_,Yn _ (Y5 _ rfl),rfl,rfl⟩;have hL2:h2.IsList L vs.toArray:=(hL.push _).push _;have hS:h2.get? h1.objs.size=Ya {cls:=.type "list",dict:=Ym,data:=.seq #[] 0,slots:=#[]}:=Y5 _ rfl;have hLI:L≠s.heap.objs.size:=d8 hlt;have ls:s.heap.objs.size<h1.objs.size:=e1▸Fw _;have hSI:h1.objs.size≠s.heap.objs.size:=Fz ls;have CJ:h1.objs.size≠L:=Fz (nT hlt ls);have W:=Ke (prog:=prog) (w:=w) (A:=A.in1) hh1 s.heap.objs.size L hLI vs.toArray;have old:∀{h':aR},(∀b o,b≠s.heap.objs.size->b≠h1.objs.size->h2.get? b=Ya o->h'.get? b=Ya o)->∀b o,s.heap.get? b=Ya o->h'.get? b=Ya o:=λhk b o q=>by exact hk b o (d8 (Y7 q)) (d8 (nT (Y7 q) ls)) (up b o q)
 refine Yv ⟨Fp yo _,xY Ru ?_⟩;rw[FT yo _];refine Yg (Fl hS rfl ?_);cases hi with
 |nil=>refine Yg (Fo (W.done _ _ _ ⟨hI,hL2⟩ λh' tk hk=>?_));refine Yg (JF (Yv ?_));exact h h' td tk (old λb o h1 h2 q=>hk b o (by simp[h1]) q)|cons n t hr=>
  refine Yg (Fo (W.item 0 _ _ _ (by simp) ⟨hI,hL2⟩ λv h' tk hP hst hk=>?_));have hS':=hk _ _ (by simp[hSI]) hS;obtain rfl:v= .int n t:=by simpa using hP.symm
  refine Yg (Yv ?_);refine Yg ?_;refine Qy hS' rfl ?_;rw[Mu];refine Yv ⟨Fp yo _,Ztq hh1 hLI hSI CJ (.cons n t hr) _ 0 n _ t _ rfl (by simp) (hst.1.at λo e=>(uq _ _ hSI).trans e) (hst.2.at λo e=>(uq _ _ CJ).trans e) (JW _ hS' rfl) λh'' t' tk' hk''=>?_⟩;exact h h'' t' tk' (old λb o h1 h2 q=>hk'' b o h1 h2 ((uq _ _ (dw h2)).trans (hk b o (by simp[h1]) q)))
end
section
variable {X:Cx} {a:Expr} {p pos kp cp:aZ} {f:E3} {k:Int}
def Zxp(K:Yb)(k:Int)(ta:TA):TE:=λσ H Q=>ta σ H λvs H1=>∃b xs ns,vs=[.ref b]/\bM K H1 b xs/\(∀us,Vals xs us->IntsAre us ns)/\Q (.int (wU k ns)) H1
theorem Zl9{M:Model}{A:bW}{s:Yl}{env:gj}{T:String}{e:Expr}{kws:List Keyword}(h:ao M A (JL (cN pos (Yz [e] env))) (λvs s₁=>ao M A (JN ((jc pos (i_ kws env)).map (·.2)))
   (λkvs s₂=>ao M A (call (.builtin T) vs (((jc pos (i_ kws env)).filterMap (·.1)).zip kvs)) Q E s₂) E s₁) E s)(he:cN pos (Yz [e] env)=[(false,aM e env)])(hall:(jc pos (i_ kws env)).all (·.1.isSome)=true)(hkw:(jc pos (i_ kws env)).any (·.1.isNone)=false):
  ao M A (JH pos (.builtin T) [] (cN pos (Yz [e] env)) (jc pos (i_ kws env))) Q E s:=by
 rw[he]at h ⊢;unfold JH;refine Yg (iD (j7 (Ygz (Q:=λa s₁=>ao M A (call (.builtin T) a.pos a.kw) Q E s₁) hall h) (λa s₁ h₁=>Yg (vP ?_)) λ_ _ x=>x));simp only[hkw,lR,List.any_nil,JZ];refine Yg (Yv (Yg ?_));exact j7 h₁ (λr s₂ hr=>Yg (iD (wpAny_point (Yv hr)))) λ_ _ x=>x
theorem ZtL{ta:TA}{j}(hg:Gl X "max")(hm:X.mg "max" =Ym)(hc:X.calm=true)(ha:PA X [a] ta)(he:cN pos (Yz [a] X.env)=[(false,aM a X.env)]):
  PE X (.Call (.Name "max" p) [a] [⟨Ya "default",.Constant (.int k) j cp,kp⟩] pos) (Zxp X.K k ta):=by
 intro pins s σ H R I h;refine Ak (yw I hg hm boot_max (Zl9 (aJ (ha pos pins s σ H _ I h) λus s1 ak=>?_) he rfl rfl));obtain⟨vs,H1,I1,r1,q1⟩:=ak;refine aJ ((Zpi (nm:=Ya "default") (kpos:=kp) (R7 (j:=j) (pos:=cp) (i:=k)) ZrY) pos pins s1 σ H1 (λzs H'=>zs=[.int k]/\H'=H1) I1 ⟨rfl,rfl⟩) λws s2 Hq=>?_;obtain⟨zs,H2,I2,rz,rfl,rfl⟩:=Hq;obtain⟨b,xs,ns,e,hq,hi,q⟩:=q1;subst e;cases r1 with
 | cons r rr=>
  cases rr
  cases r
  cases rz with
  |cons r' rr=>
   cases rr
   obtain⟨t,rfl⟩:=r';obtain⟨its,rv,pl,hz⟩:=I2.list hq;refine ZpZ (td:=t) (I2.ok.hd hc) pl.isList (hi its rv) λh' t' tk hk=>?_;exact⟨.int (wU k ns),H2,I2.kept (t':=tk) hk,⟨t',rfl⟩,q⟩
theorem ZqY{j}(hm:X.mg "max" =Ym)(h:C3 X a f)(hg:autoParam (Gl X "max") qA)(hc:autoParam (X.calm=true) qA)(he:autoParam (cN pos (Yz [a] X.env)=[(false,aM a X.env)]) qA)(hs':autoParam (Yz (a::[]) X.env=(false,aM a X.env)::Yz [] X.env) qA):
  C3 X (.Call (.Name "max" p) [a] [⟨Ya "default",.Constant (.int k) j cp,kp⟩] pos) (aC (Cz k) (Zb f Zf)):=
 (ZtL hg hm hc (Zc h Ze hs') he).imp λσ H Q ak=>by
  obtain⟨ι,M,env,S,E,h⟩:=ak;refine⟨ι,M,env,S,E,?_⟩;have h:Zv X.K H ι Q ((Zb f Zf env M).bind λds M'=>Cz k ds M'):=h;cases q:Zb f Zf env M with
  |exc _ _=>rw[q]at h;exact h.elim|bad=>rw[q]at h;exact h.elim|ok ds M1=>
   rw[q]at h;intro vs H1 ι1 x1 S1 r1;have h:Zv X.K H ι Q (Cz k ds M1):=h
   match ds,h,r1 with
   |[],h,_=>exact h.elim|d1::d2::r,h,_=>cases d1<;>exact h.elim|[d],h,r1=>
    cases d with
    |ref n=>obtain⟨xs,hn,h⟩:=Lw h;obtain⟨d,hd,h⟩:=G_ h;obtain⟨ns,hns,rfl⟩:=PN.mp hd;obtain⟨v,ws,rfl,rv,U6⟩:=r1;obtain⟨p,hp,rfl⟩:=rv.dX;obtain⟨us,e1,r2⟩:=S1.obj n _ p hn hp;rw[show ws=[]from U6];exact⟨p,us,ns,rfl,.inl (.inl e1),λits rr=>Zk0 hns r2 rr,Zv.ok (h.up x1) S1 Rep.int⟩|_=>exact h.elim
end
set_option maxRecDepth 100000
noncomputable def ou:List aj->List aj->List aj
 |acc,[]=>acc|acc,x::r=>ou (if acc.any (· ==x)then acc else acc++[x]) r
theorem any_put(acc:List aj)(x k:aj):(if acc.any (· ==x)=true then acc else acc++[x]).any (· ==k)=(acc.any (· ==k)|| decide (k=x)):=by
 by_cases c:acc.any (· ==x)=true
 .rw[if_pos c];by_cases e:k=x
  .rw[e,c];rfl
  .rw[decide_eq_false e,JZ]
 .rw[if_neg c,List.any_append];congr 1;by_cases e:k=x
  .subst e;simp
  .rw[decide_eq_false e];simp[dw e]
section
variable {prog:bR} {w:bJ} {A:bW} {R:um->Yl->Prop} {I L S:Y4} {l:List (aj×gw)}
theorem Zt4(hh:A.in1.handled=Ym)(hLI:L≠I)(hSI:S≠I)(CJ:S≠L)(hb:l.length<=20):∀(k i:Nat) (acc:List aj) (s:Yl),l.length-i=k->i<=l.length->acc.length<=i->s.heap.IsListIter I L i->s.heap.IsList L (mG l).toArray->s.heap.SetOf (strKind prog w) S (λk=>acc.any (· ==k)) acc.length ->
  (∀h' tk,(∀b o,b≠I->b≠S->s.heap.get? b=Ya o->h'.get? b=Ya o)->h'.SetOf (strKind prog w) S (λk=>(ou acc ((l.drop i).map (·.1))).any (· ==k)) (ou acc ((l.drop i).map (·.1))).length->R (.ok (.ret .none)) {s with heap:=h',toks:=tk}) ->
  nR (aB prog w) A (.builtin "set.update.loop" ⟨[.ref S,.ref I],[]⟩) R s:=by
 have W:=Ke (prog:=prog) (w:=w) (A:=A.in1) hh I L hLI (mG l).toArray;have sz:(mG l).toArray.size=l.length:=by simp[mG]
 intro k
 induction k with
 |zero=>
  intro i acc s hk hi ha hst hL hS hR;have hin:(mG l).toArray.size=i:=by omega
  refine xY Yey ?_;rw[FT Rh _];refine Yg (W.done s _ _ (hin▸⟨hst,hL⟩) λh' tk hk'=>?_);have e:l.drop i=[]:=Jm (by omega);rw[e]at hR;obtain⟨o,es,ep,t,ho,rest⟩:=hS;exact Yv (hR h' tk (λb o h1 _ q=>hk' b o (by simp[h1]) q) ⟨o,es,ep,t,hk' S _ (by simp[hSI]) ho,rest⟩)
 | succ k ih=>
  intro i acc s hk hi ha hst hL hS hR;have hlt:i<l.length:=by omega
  refine xY Yey ?_;rw[FT Rh _];refine Yg (W.item i s _ _ (by omega) ⟨hst,hL⟩ λv h' tk hP hst' hk'=>?_);have hv:v= .str (l[i]'hlt).1 (l[i]'hlt).2:=by rw[Yiw]at hP;simp only[mG,lO,Y3 hlt,PQ]at hP;exact(Y2 hP).symm
  have ed:l.drop i=l[i]'hlt::l.drop (i+1):=Ad hlt;rw[ed,Ys]at hR;generalize l[i]'hlt=q at hv hR;obtain⟨x,t⟩:=q;subst hv;have hS':h'.SetOf (strKind prog w) S (λk=>acc.any (· ==k)) acc.length:=by obtain⟨o,es,ep,tb,ho,rest⟩:=hS;exact⟨o,es,ep,tb,hk' S _ (by simp[hSI]) ho,rest⟩
  have hx:(strKind prog w).is x (.str x t)=true:=beq_self_eq_true x;have room:acc.length+1<QV:=by have:QV=4096:=rfl;omega
  refine Yg (iD ?_);unfold setAdd;refine iD ?_;refine Yg ((strKind prog w).pyHash (k:=x) hx ?_);refine wpAny_setAddHashed_of (knd:=strKind prog w) hx rfl hS' room λh'' sb hS2=>?_;refine Yv ⟨Fp Rh _,ih (i+1) (if acc.any (· ==x)=true then acc else acc++[x]) _ (by omega) hlt ?_ (hst'.1.at λo e=>(sb.2 I (dw hSI)).trans e) (hst'.2.at λo e=>(sb.2 L (dw CJ)).trans e) ?_ λh3 tk3 hk3 hS3=>?_⟩
  .by_cases c:acc.any (· ==x)=true
   .rw[if_pos c];omega
   .rw[if_neg c,Yf,jj];omega
  .refine SetOf_congr hS2 (λk=>(any_put acc x k).symm) ?_;by_cases c:acc.any (· ==x)=true
   .rw[if_pos c,if_pos c]
   .rw[if_neg c,if_neg c,Yf,jj]
  .exact hR h3 tk3 (λb o h1 h2 q=>hk3 b o h1 h2 ((sb.2 b h2).trans (hk' b o (by simp[h1]) q))) hS3
end
noncomputable abbrev rD(led:Bool):aP:={cls:=.type "set",dict:=Ym,data:=.set #[] 0 (.fresh 0 0 led)}
section
variable {prog:bR} {w:bJ} {A:bW} {E:Yh->Yl->Prop} {s:Yl} {L:Y4} {l:List (aj×gw)}
theorem Zp1(hh:A.handled=Ym)(hl:s.heap.IsList L (mG l).toArray)(hb:l.length<=20)(led:Bool){R:um->Yl->Prop}(h:∀h' tk,h'.SetOf (strKind prog w) s.heap.objs.size (λk=>(ou [] (l.map (·.1))).any (· ==k)) (ou [] (l.map (·.1))).length->(∀b o,s.heap.get? b=Ya o->h'.get? b=Ya o)->R (.ok (.ret .none)) {s with heap:=h',toks:=tk}):
  ao (aB prog w) A.in1 (Builtin.«set.__init__» ⟨[.ref s.heap.objs.size,.ref L],[]⟩) (λfin s'=>match fin with| .done f=>R (.ok f) s'| .again c'=>c'.quiet=true/\nR (aB prog w) A c' R s') (λe s'=>R (.error e) s') {s with heap:=s.heap.push (rD led)}:=by
 have hS:(s.heap.push (rD led)).get? s.heap.objs.size=Ya (rD led):=Y5 _ rfl;obtain⟨ol,hol,hcl,nl,hdl⟩:=hl;obtain⟨ocls,odict,odata,oslots⟩:=ol;simp only at hcl hdl;subst hcl hdl;have hol':(s.heap.push (rD led)).get? L=Ya {cls:=.type "list",dict:=odict,data:=.seq (mG l).toArray nl,slots:=oslots}:=Yn _ hol;have f1:=PySem.F.sub_list_set;have f2:=PySem.F.sub_list_frozenset;have f3:(Value.type "list" ==Value.type "dict")=false:=by decide
 have hl1:(s.heap.push (rD led)).IsList L (mG l).toArray:=⟨_,hol',rfl,nl,rfl⟩;have hlS:L<s.heap.objs.size:=Y7 hol;have e1:(s.heap.push (rD led)).objs.size=s.heap.objs.size+1:=yg ..;have ls:s.heap.objs.size<(s.heap.push (rD led)).objs.size:=e1▸Fw _;unfold Builtin.«set.__init__» noKeywords Builtin.Frozenset.updateFrom;generalize hPI:Av=PI
 wp_walk
 subst hPI;refine vN hl1 ?_;refine Yg (wpAny_runValue ?_);refine Zt4 (by simp[hh]) (d8 (nT hlS ls)) (d8 ls) (Fz hlS) hb _ 0 [] _ rfl (fC _) (Yt _) ⟨_,Y5 _ rfl,rfl,rfl⟩ (hl1.push _) ?_ λh' tk hk hS'=>?_
 .exact SetOf_congr ((setObjOf_fresh (knd:=strKind prog w) led).setOf (Yn _ hS) (by unfold QV;omega)) (λ_=>rfl) rfl
 .refine Yv ?_;refine Yv (h h' tk hS' λb o q=>?_);have lb:=Y7 q;exact hk b o (d8 (nT lb ls)) (d8 lb) (Yn _ (Yn _ q))
end
set_option maxHeartbeats 1600000 in
theorem Zqg{prog:bR}{w:bJ}{A:bW}{s:Yl}{L:Y4}{l:List (aj×gw)}(hh:A.handled=Ym)(hl:s.heap.IsList L (mG l).toArray)(hb:l.length<=20)(h:∀h' tk,h'.SetOf (strKind prog w) s.heap.objs.size (λk=>(ou [] (l.map (·.1))).any (· ==k)) (ou [] (l.map (·.1))).length->(∀b o,s.heap.get? b=Ya o->h'.get? b=Ya o)->Q (.ref s.heap.objs.size) {s with heap:=h',toks:=tk}):
  ao (aB prog w) A (call (.type "set") [.ref L]) Q E s:=by
 obtain⟨c,tl,hmro⟩:=PySem.F.called_set.mro;have g1:=PySem.F.called_set.made;have g2:=PySem.F.called_set.sub;have g3:=PySem.F.called_set.notType;have g4:=PySem.F.called_set.canCreate;have g5:=PySem.F.typeCall_set_1 (.ref L);refine Fq (Yme (Yv ⟨Ykj _ (by decide +kernel),xY PySem.F.entry_type_call ?_⟩));rw[Ykk (Yit "set" [.ref L] []) rfl]
 repeat(any_goals(first|assumption|wp_step))
 refine vQ (code_set_new_1 (.ref L) (E:=E) (Q₁:=λo s1=>∃led,o= .ref s.heap.objs.size/\s1={s with heap:=s.heap.push (rD led)}) λled=>⟨led,rfl,rfl⟩) λr s1 hr=>?_;cases r with
 |error e=>exact hr|ok fl=>cases fl with
  | ret o=>
   obtain⟨led,rfl,rfl⟩:=hr;have hS:(s.heap.push (rD led)).get? s.heap.objs.size=Ya (rD led):=Y5 _ rfl;have hT:Shared.TypeIs {s with heap:=s.heap.push (rD led)} (.ref s.heap.objs.size) "set":=⟨_,hS,rfl⟩;have k1:=PySem.F.called_set.init.lookup;have k2:=PySem.F.called_set.init.bind (.ref s.heap.objs.size)
   repeat(any_goals(first|assumption|wp_step))
   refine vQ (Jw (R:=wants (λr s2=>r= .none/\∃h' tk,s2={s with heap:=h',toks:=tk}/\h'.SetOf (strKind prog w) s.heap.objs.size (λk=>(ou [] (l.map (·.1))).any (· ==k)) (ou [] (l.map (·.1))).length/\∀b o,s.heap.get? b=Ya o->h'.get? b=Ya o) E) PySem.F.called_set.init.plain PySem.F.entry_set_init (check_set_init_1 hT ?_)) λr2 s2 hr2=>?_
   .exact Zp1 (by simp[hh]) hl hb led λh' tk a b=>⟨rfl,h',tk,rfl,a,b⟩
   .cases r2 with
    |error e=>exact hr2|ok f2=>cases f2 with
     |ret r=>
      obtain⟨rfl,h',tk,rfl,a,b⟩:=hr2
      repeat(any_goals(first|assumption|wp_step))
      exact h _ _ a b
     |_=>exact hr2.elim
  |_=>exact hr.elim
noncomputable def Mv(X:Cx)(p:Y4)(n:Nat):HO:=.ext λh=>∃S,h.SetOf (strKind X.prog X.w) p S n
section
variable {X:Cx} {a:Expr} {p p2 q pos:aZ} {f:E3}
theorem Zkw:∀{x:List D} {ts:List (List Nat)},iI x=Ya ts->ts.length=x.length
 |[],ts,h=>by cases h;rfl|.str y::x,ts,h=>by have h:(iI x).map (y:: ·)=Ya ts:=h;obtain⟨r,hr,rfl⟩:=PN.mp h;rw[Yk,Yk,Zkw hr]
 | .non::_,_,h=>nomatch h|.bl _::_,_,h=>nomatch h|.int _::_,_,h=>nomatch h|.tup _::_,_,h=>nomatch h
 | .bD _::_,_,h=>nomatch h|.ref _::_,_,h=>nomatch h
theorem Zp0(hc:X.calm=true):_L2.dB X (.type "set") (λxs H Q=>∃b ys sts,xs=[.ref b]/\bM X.K H b ys/\(∀us,Vals ys us->∃l:List (aj×gw),us=mG l/\l.map (·.1)=sts)/\sts.length<=20/\∀p,H p=Ym->Q (.ref p) (upd H p (Mv X p (ou [] sts).length))):=by
 intro pins s σ H xs us Q I r h;obtain⟨b,ys,sts,rfl,hq,hi,hl,q⟩:=h;obtain⟨u,rfl,ru⟩:=vals1 r;cases ru;obtain⟨its,rv,pl,hz⟩:=I.list hq;obtain⟨l,rfl,rfl⟩:=hi its rv;rw[Yu]at hl;refine Zqg (I.ok.hd hc) pl.isList hl λh' tk hS hk=>?_;refine⟨.ref s.heap.objs.size,_,I.laid (t':=tk) (o:=Mv X s.heap.objs.size (ou [] (l.map (·.1))).length) hk (Yt _) ⟨⟨_,hS⟩,?_,?_⟩,rfl,q _ (I.hok.fresh (Yt _))⟩
 .obtain⟨o,_,_,_,ho,_⟩:=hS;exact⟨o,ho⟩
 .intro _ _ z kk;obtain⟨S,o,es,ep,t,ho,rest⟩:=z;exact⟨S,o,es,ep,t,kk o ho,rest⟩
theorem Zqo:_L2.dB X (.builtin "len") (λxs H Q=>∃p n,xs=[.ref p]/\H p=Ya (Mv X p n)/\n<=20/\Q (.int (n:Int)) H):=by intro pins s σ H xs us Q I r h;obtain⟨p,n,rfl,hp,hn,q⟩:=h;obtain⟨u,rfl,ru⟩:=vals1 r;cases ru;obtain⟨⟨S,o,es,ep,t,ho,hex,hd,_,_,_,hf,hsz⟩,_⟩:=I.hok p _ hp;subst hsz;refine call_len_set ho hex hd hf (by omega) ?_;exact⟨.int (es.size:Int),H,(I.tok _).tok _,⟨_,rfl⟩,q⟩
theorem U7:∀(xs acc:List (List Nat)),(ou (acc.map λt=>(⟨t.toArray⟩:aj)) (xs.map λt=>(⟨t.toArray⟩:aj))).length=(unlike acc xs).length
 |[],acc=>Yu ..|x ::r,acc=>by
  have e:(acc.map λt=>(⟨t.toArray⟩:aj)).any (· ==(⟨x.toArray⟩:aj))=acc.contains x:=by
   induction acc with
   |nil=>rfl|cons y acc ih=>
    rw[Ys,lR,List.contains_cons,ih];congr 1;by_cases c:y=x
    .subst c;simp
    .have:(⟨y.toArray⟩:aj)≠⟨x.toArray⟩:=λz=>c (by injection z with z;simpa using congrArg Bh z)
     rw[beq_eq_false_iff_ne.mpr this,beq_eq_false_iff_ne.mpr (dw c)]
  show(ou (if(acc.map λt=>(⟨t.toArray⟩:aj)).any (· ==(⟨x.toArray⟩:aj))then _ else _) _).length=(unlike (if acc.contains x then acc else acc++[x]) r).length;rw[e];by_cases c:acc.contains x=true
  .rw[if_pos c,if_pos c];exact U7 r acc
  .rw[if_neg c,if_neg c];have:=U7 r (acc++[x]);rw[jl]at this;exact this
theorem Zjo:∀(xs acc:List (List Nat)),(unlike acc xs).length<=acc.length+xs.length
 |[],acc=>jd _ _|x::r,acc=>by
  show(unlike (if acc.contains x then acc else acc++[x]) r).length<=_;have h:=Zjo r (if acc.contains x then acc else acc++[x]);have k:(if acc.contains x then acc else acc++[x]).length<=acc.length+1:=by
   by_cases c:acc.contains x=true
   .rw[if_pos c];omega
   .rw[if_neg c,Yf,jj];exact Yt _
  rw[Yk];omega
theorem ZqN(hm:X.mg "len" =Ym)(hm2:X.mg "set" =Ym)(h:C3 X a f)(hc:autoParam (X.calm=true) qA)(hg:autoParam (Gl X "len") qA)(hg2:autoParam (Gl X "set") qA)(hs:autoParam (Yz [a] X.env=(false,aM a X.env)::Yz [] X.env) qA)(hs2:autoParam (Yz [.Call (.Name "set" p2) [a] [] q] X.env=(false,aM (.Call (.Name "set" p2) [a] [] q) X.env)::Yz [] X.env) qA)(h1:autoParam ((cN q (Yz [] X.env)).any (·.1)=false) qA)(h2:autoParam ((cN pos (Yz [] X.env)).any (·.1)=false) qA):
  C3 X (.Call (.Name "len" p) [.Call (.Name "set" p2) [a] [] q] [] pos) (aC Ms (Zb f Zf)):=
 (KN (r:=λxs H Q=>∃p n,xs=[.ref p]/\H p=Ya (Mv X p n)/\n<=20/\Q (.int (n:Int)) H) Zqo hg hm gq (wz (Zk1 (Zp0 hc) hg2 hm2 (by decide +kernel) (Zc h Ze hs) (by decide) (by decide) hs h1) Gm hs2) (by decide) (by decide) hs2 h2).imp λσ H Q ak=>by
  obtain⟨ι,M,env,S,E,h⟩:=ak;obtain⟨ds,M1,e1,h⟩:=Zv.bind h;refine⟨ι,M,env,S,E,?_⟩;rw[e1];intro vs H1 ι1 x1 S1 r1
  match ds,h,r1 with
  |[],h,_=>exact h.elim|d1::d2::r,h,_=>cases d1<;>exact h.elim|[d],h,r1=>
   cases d with
   |ref n=>
    obtain⟨xs,hn,h⟩:=Lw h;obtain⟨d,hd,h⟩:=G_ h;obtain⟨hl,h⟩:=wJ h;obtain⟨ts,hts,rfl⟩:=PN.mp hd;obtain⟨v,ws,rfl,rv,U6⟩:=r1;obtain⟨p,hp,rfl⟩:=rv.dX;obtain⟨us,e2,r2⟩:=S1.obj n _ p hn hp;rw[show ws=[]from U6];have tl:ts.length<=20:=by rw[Zkw hts];exact hl
    refine⟨p,us,ts.map λt=>(⟨t.toArray⟩:aj),rfl,.inl (.inl e2),λits rr=>Mj hts r2 rr,by rw[Yu];exact tl,λz hz=>?_⟩;have e3:(ou [] (ts.map λt=>(⟨t.toArray⟩:aj))).length=(unlike [] ts).length:=U7 ts [];have l3:(unlike [] ts).length<=20:=Yi (Zjo ts []) (by rw[Fi,v7];exact tl);refine⟨z,_,rfl,qN,by rw[e3];exact l3,?_⟩;rw[e3];exact h _ _ ι1 (x1.trans (Loose.ext (.inl hz))) (S1.other (.inl hz) (S1.fresh hz)) Rep.int
   |_=>exact h.elim
end
section
variable {prog:bR} {w:bJ} {A:bW} {E:Yh->Yl->Prop} {s:Yl} {a:Y4} {tk:gw}
theorem ZpF{R:δ->Yh->Prop}{T:List (aj×δ)}{k:aj}{Q:Bool->Yl->Prop}(h:qM R s.heap a T)(q:Q (oY k T).isSome {s with toks:=s.toks+1}):ao (aB prog w) A (JK (.ref a) (.str k tk)) Q E s:=by
 unfold JK
 try with_reducible refine iD ?_
 refine Yg (Qx (tG h) PySem.F.slot_dict_contains.lookup ?_);show ao _ _ (if(Ya (Value.builtin "dict.__contains__")==Ya Value.none)=true then _ else _) _ E s;rw[if_neg (by rw[beq_builtin_none];exact mJ)];refine Yg (wpAny_callSpecialUnlessNone?_slot (name:=qL "__contains__") (tG h) Ygl
  (vO Ygl (tG h) PySem.F.entry_dict_contains ?_ (args_dict_contains _ _)))
 show ao _ _ (vX a (.str k tk)>>=_) _ _ s;refine Yg (U4 h (λd v e _=>?_) λe=>?_)
 .rw[e]at q;show ao _ _ (ret (.bool true)) _ _ _;exact Yv ⟨_,rfl,qF q⟩
 .rw[e]at q;show ao _ _ (Builtin.Dict.pendingKey? a (.str k tk)>>=_) _ _ _;exact Yg (wpAny_pendingKey_other h.1 (Yv ⟨_,rfl,qF q⟩))
theorem Zqw{R:δ->Yh->Prop}{T:List (aj×δ)}{k:aj}{d:δ}(h:qM R s.heap a T)(e:oY k T=Ya d)(h1:∀v,R d v->Q v {s with toks:=s.toks+1}):ao (aB prog w) A (qH (.ref a) (.str k tk)) Q E s:=by
 unfold qH
 try with_reducible refine iD ?_
 refine Yg (Qv (tG h) (by decide) ?_);refine Yg (xW (name:=qL "__getitem__") (tG h) Yg0
  (vO Yg0 (tG h) PySem.F.entry_dict_getitem ?_ (PySem.F.args_dict_getitem_2 _ _)))
 show ao _ _ (vX a (.str k tk)>>=λo=>_) _ _ s;refine Yg (U4 h (λd' v e' r=>?_) λe'=>by rw[e]at e';cases e');rw[e]at e';cases e';exact Yv ⟨v,rfl,Yv (h1 v r)⟩
end
section
variable {X:Cx} {e:Expr} {x:aj} {a:Y4} {t:lY} {npos pos:aZ} {g:E3}
def U8(t:lY)(a:Y4)(p:Bool->Bool):R2:=λx y H Q=>y= .ref a/\∃k,x= .str ⟨k.toArray⟩/\Q (.bl (p (dD k t).isSome)) H
theorem Zpk(ht:nC X.K a t):aO X (d7 .In) (U8 t a λb=>b):=by intro pins s σ H x y v u Q I rx ry h;obtain⟨rfl,k,rfl,q⟩:=h;obtain⟨tk,rfl⟩:=rx;obtain rfl:u= .ref a:=ry;show ao _ _ ((do return Value.bool (←JK (.ref a) (.str ⟨k.toArray⟩ tk))):pN Yh) _ _ _;refine Yg (ZpF (ht.at I.fG) (Yv ⟨.bl (oY (⟨k.toArray⟩:aj) (Cw t)).isSome,H,I.tok _,rfl,?_⟩));rw[Cy];exact q
theorem ZnJ(ht:nC X.K a t):aO X (d7 .NotIn) (U8 t a λb=>!b):=by intro pins s σ H x y v u Q I rx ry h;obtain⟨rfl,k,rfl,q⟩:=h;obtain⟨tk,rfl⟩:=rx;obtain rfl:u= .ref a:=ry;show ao _ _ ((do return Value.bool (!(←JK (.ref a) (.str ⟨k.toArray⟩ tk)))):pN Yh) _ _ _;refine Yg (ZpF (ht.at I.fG) (Yv ⟨.bl (!(oY (⟨k.toArray⟩:aj) (Cw t)).isSome),H,I.tok _,rfl,?_⟩));rw[Cy];exact q
theorem U9{p:Bool->Bool}{q:D->Store->R3 D}(hq:∀d M,q d M=(match d with| .str k=>.ok (.bl (p (dD k t).isSome)) M|_=>.bad))(σ:St)(H:Hp)(Q:VK)(h:nj X.K (e1 q g) σ H Q):Bq (U8 t a p) (nj X.K g) (tC (.ref a)) σ H Q:=by
 obtain⟨ι,M,env,S,E,h⟩:=h;obtain⟨d,M1,e1,h⟩:=Zv.bind h;refine⟨ι,M,env,S,E,?_⟩;rw[e1];intro y H1 ι1 x1 S1 r1;rw[hq]at h;cases d with
 |str k=>
  cases r1.str_inv
  exact⟨rfl,k,rfl,h _ H1 ι1 x1 S1 Rep.bl⟩
 |_=>exact h.elim
section
variable (hm:X.mg x=Ya (.ref a)) (ht:nC X.K a t) (he:C3 X e g)
include hm ht he
theorem Zuf(hg:autoParam (Gl X x) qA)(hd:autoParam ((x==("__debug__":aj))=false) qB)(hb:autoParam (xZ .In (.Name x npos)=false) qA):C3 X (.Compare e [.In] [.Name x npos] pos) (e1 (uU t) g):=(Zpo (Zpk ht) he (Bo (v:=.ref a) hg hm rfl hd) hb).imp (U9 λd _=>by cases d<;>rfl)
theorem ZsI(hg:autoParam (Gl X x) qA)(hd:autoParam ((x==("__debug__":aj))=false) qB)(hb:autoParam (xZ .In (.Name x npos)=false) qA):CT X (.Compare e [.In] [.Name x npos] pos) (e1 (uU t) g):=(Sv (Zpk ht) he (Bo (v:=.ref a) hg hm rfl hd) hb).imp λσ H Q ak=>by obtain⟨ι,M,env,S,E,h⟩:=ak;exact U9 (λd _=>by cases d<;>rfl) σ H _ ⟨ι,M,env,S,E,G7 h⟩
theorem Zmx(hg:autoParam (Gl X x) qA)(hd:autoParam ((x==("__debug__":aj))=false) qB)(hb:autoParam (xZ .NotIn (.Name x npos)=false) qA):CT X (.Compare e [.NotIn] [.Name x npos] pos) (e1 (Mt t) g):=(Sv (ZnJ ht) he (Bo (v:=.ref a) hg hm rfl hd) hb).imp λσ H Q ak=>by obtain⟨ι,M,env,S,E,h⟩:=ak;exact U9 (λd _=>by cases d<;>rfl) σ H _ ⟨ι,M,env,S,E,G7 h⟩
end
theorem ZsQ{te:TE}(hm:X.mg x=Ya (.ref a))(ht:nC X.K a t)(he:PE X e te)(hs:K_ e)(hg:Gl X x)(hd:(x==("__debug__":aj))=false):
  PE X (.Subscript (.Name x npos) e pos) (λσ H Q=>te σ H λy H1=>∃k i,y= .str ⟨k.toArray⟩/\dD k t=Ya i/\Q (.int i) H1):=by
 intro pins s σ H Q I h;refine Zua PySem.F.slot_dict_getitem.lookup hs (aJ (Bo (v:=.ref a) (u:=.ref a) hg hm rfl hd pins s σ H (λv H'=>v= .ref a/\H'=H) I ⟨rfl,rfl⟩) λu s1 ak=>?_);obtain⟨v,H1,I1,r1,rfl,rfl⟩:=ak;obtain rfl:u=Value.ref a:=r1;refine aJ (he pins s1 σ H1 _ I1 h) λiv s2 Hq=>?_;obtain⟨y,H2,I2,ry,k,i,rfl,et,q⟩:=Hq;obtain⟨tk,rfl⟩:=ry;have T2:=ht.at I2.fG;refine⟨tG T2,Zqw T2 (d:=i) (by rw[Cy,et]) λv rv=>?_⟩;obtain⟨t',rfl⟩:=rv;exact⟨.int i,H2,I2.tok _,⟨t',rfl⟩,q⟩
theorem ZtB(hm:X.mg x=Ya (.ref a))(ht:nC X.K a t)(he:C3 X e g)(hs:K_ e:=by exactλ_ _=>rfl)(hg:autoParam (Gl X x) qA)(hd:autoParam ((x==("__debug__":aj))=false) qB):
  C3 X (.Subscript (.Name x npos) e pos) (e1 (Hr t) g):=(ZsQ hm ht he hs hg hd).imp λσ H Q ak=>by
 obtain⟨ι,M,env,S,E,h⟩:=ak;obtain⟨d,M1,e1,h⟩:=Zv.bind h;refine⟨ι,M,env,S,E,?_⟩;rw[e1];intro y H1 ι1 x1 S1 r1;cases d with
 | str k=>
  cases r1.str_inv
  cases et:dD k t with
  |none=>have h:Zv X.K H ι Q (match dD k t with|some i=>.ok (.int i) M1|none=>.bad):=h;rw[et]at h;exact h.elim
  |some i=>have h:Zv X.K H ι Q (match dD k t with|some i=>.ok (.int i) M1|none=>.bad):=h;rw[et]at h;exact⟨k,i,rfl,et,h _ H1 ι1 x1 S1 Rep.int⟩
 |_=>exact h.elim
end
section
variable {X:Cx}
theorem U_(hu:X.A.units+80<jL):aO X (d7 .NotEq) (r2 X.K rC):=by
 intro pins s σ H x y v u Q I rx ry h;obtain⟨ι,M,a,b,S,ra,rb,h⟩:=h;have hu1:X.A.units<jL:=by omega
 unfold rC at h;split at h
 next n m=>
  split at h
  next z h1 h2=>
   obtain⟨p,vs,its,_,eu,t,r1,v1⟩:=Lz I S h1 ra rx;obtain⟨q,ws,its2,_,ev,t',r2,v2⟩:=Lz I S h2 rb ry;cases z with
   |nil=>exact(T_ (k:=true) hu I S ra rb rx ry (by simp only[Bw,h1,h2];rfl)).2 X.prog X.w X.xe _ ⟨.bl false,H,I,rfl,Zv.ok h S Rep.bl⟩|cons d ds=>rw[eu,ev];have hz:(its.toArray.size !=its2.toArray.size)=true:=bne_iff_ne.mpr λe=>absurd ((pq r1 v1).symm.trans (e.trans (pq r2 v2))) (by simp);exact Ygk t t' hz hu1 X.prog X.w X.xe _ ⟨.bl true,H,I,rfl,Zv.ok h S Rep.bl⟩
  .exact h.elim
 .exact h.elim
end
section
variable {X:Cx} {o e:Expr} {es:List Expr} {f:E3} {gl:eQ} {apos cpos:aZ}
theorem ZsV:k_ X "str.join" (rM X.K wV):=by
 intro pins s σ H x xs v us Q I rx rs h;obtain⟨ι,M,a,ds,S,ra,rd,h⟩:=h;unfold wV at h;split at h
 next sep z=>
  split at h
  next ts hs=>
   split at h
   next hz=>have:=ra.str_inv;subst this;obtain⟨w',ws,rfl,r1,r2⟩:=rd.cons_inv;have:=r2.nil_inv;subst this;obtain⟨t,rfl⟩:=rx;obtain⟨u,rfl,ru⟩:=vals1 rs;obtain⟨p,vs,its,ex,eu,ht,q1,v1⟩:=yZ I r1 ru;subst eu;obtain⟨l,rfl,el⟩:=Mj hs q1 v1;have hok:=ZsL hz;rw[←el]at hok;unfold JoinOk at hok;rw[Yky]at hok;obtain⟨ob,ho,hc,n,hd⟩:=ht;refine qG Rn (yd _ _ _) PySem.F.entry_str_join (PySem.F.args_str_join_2 _ _) (meets_str_join_tuple _ t p l hok) ⟨⟨ob,n,ho,hc,hd⟩,post_join l ⟨joinFit_length hok,λt' k=>⟨.str _,H,I.tok _,⟨t',rfl⟩,?_⟩⟩⟩;rw[el,Txt.join,Yip,Ml];exact Zv.ok h S Rep.str
   .exact h.elim
  .exact h.elim
 .exact h.elim
theorem Zna(ho:C3 X o f)(ha:CA X (e::es) gl)(hbase:autoParam (nQ o "join" X.env (aM o X.env)=aM o X.env) qA)(hfew:((cN cpos (Yz (e::es) X.env)).all (λx=>!x.1)&&(jc cpos (i_ [] X.env)).all (λx=>x.1.isSome)
   &&decide ((e::es).length+([]:List Keyword).length+(if([]:List Keyword).isEmpty then 0 else 1)<30))=true:=by rfl)(hline:autoParam ((apos.endLine==cpos.line)=true) qA)(hs:autoParam (Yz (e::es) X.env=(false,aM e X.env)::Yz es X.env) qA)(hplain:autoParam ((cN cpos (Yz es X.env)).any (·.1)=false) qA):
  C3 X (.Call (.Attribute o "join" apos) (e::es) [] cpos) (aG fM wV f gl):=
 (Bu J7 Rn Yiq ZsV ho ha hbase hfew hline hs hplain).imp (Cm Mh)
end
end _L3
set_option maxHeartbeats 400000
namespace _Law
open PySem _L3
noncomputable section
def vz:E3:=eC (.str [48,49,50,51,52,53,54,55,56,57])
def xM:E3:=eC (.str [97,98,99,100,101,102,103,104,105,106,107,108,109,110,111,112,113,114,115,116,117,118,119,120,121,122])
def oA:lY:=[([119,104,101,110],2),([119,104,105,108,101],1)]
def xH:E3:=eC (.int 12)
def xJ:E3:=eC (.int 6)
def rN:E3:=eC (.int 60)
def rO:E3:=eC (.int 8)
def vp:E3:=eC (.int 6)
def vy:E3:=eC (.int 60)
def pB:lY:=[([97,100,100],2),([115,117,98],2),([109,111,114,101],2),([99,101,108,108],1)]
def jY:lY:=[([115,101,116],1),([112,117,116],2),([116,101,108,108],1),([119,104,101,110],1),([101,108,115,101],0),([119,104,105,108,101],1),([101,110,100],0)]
def Zx:List (List Nat):=[[116,97,107,101],[115,101,116],[112,117,116],[116,101,108,108],[119,104,101,110],[101,108,115,101],[119,104,105,108,101],[101,110,100],[97,100,100],[115,117,98],[109,111,114,101],[99,101,108,108]]
def qp:E3:=eC (.tup (Zx.map D.str))
def Hs:S3:=Zr (aA 1 (kh (aG fM sU (Za 0) (Zb (eC (.str [45])) (Zf))) (eU (Za 0) (dG (eC (.int 1))) (fV)) (Za 0))) (Zr (aK (fH (e2 fQ (aC bx (Zb (Za 1) (Zf))) (eC (.int 1))) (e2 cX (aC bx (Zb (Za 1) (Zf))) (rN))) (aQ (eC (.bl false))) (aW)) (Zr (aK (aG fM sU (Za 1) (Zb (eC (.str [48])) (Zf))) (aQ (e2 bh (Za 0) (eC (.str [48])))) (aW)) (aQ (aC sS (Zb (fW (bZ (Za 1)) 1 (bA 2) [] (e2 mX (Za 2) (vz))) (Zf))))))
def rE:F3:=bF 1 2 Hs
def Va:S3:=aQ (aG fM uJ (eC (.str [32])) (Zb (fW (bZ (Za 0)) 1 (bA 1) [] (aC tu (Zb (Za 1) (Zf)))) (Zf)))
def Ht:F3:=bF 1 1 Va
def Vb:S3:=Zr (aA 1 (aV (Zf))) (Zr (aA 2 (eC (.int 0))) (Zr (lz (bZ (Za 0)) (bA 3) (Zr (aK (e2 bh (Za 2) (eC (.int 0))) (Zr (aU (aG bj cu (Za 1) (Zb (aV (Zf)) (Zf)))) (aA 2 (eC (.int 1)))) (aW)) (Zr (aU (aG bj cu (e2 Zn (Za 1) (e1 cL (eC (.int 1)))) (Zb (Za 3) (Zf)))) (aA 2 (e2 aN (e2 iH (Za 2) (eC (.int 1))) (e2 (uM pB) (Za 3) (eC (.int 0)))))))) (aQ (kh (e2 bh (Za 2) (eC (.int 0))) (fW (bZ (Za 1)) 1 (bA 4) [] (aC gC (Zb (Za 4) (Zf)))) (eC .non)))))
def wW:F3:=bF 1 4 Vb
def Zh4:S3:=aQ (e1 (uU pB) (Za 0))
def CK:F3:=bF 1 1 Zh4
def Vc:S3:=aQ (Zz wW (Zb (eU (Za 0) (dG (eC (.int 1))) (fV)) (Zf)))
def Mw:F3:=bF 1 1 Vc
def Vd(rec:F3):S3:=Zr (aA 1 (Zz Mw (Zb (Za 0) (Zf)))) (aQ (aC (Cz 1) (Zb (wG (TV (Za 1)) 2 (o7 [2,3]) [] (e2 aN (Zz rec (Zb (Za 3) (Zf))) (Za 2))) (Zf))))
def zm:Nat->F3
 |0=>bF 1 2 qU|n+1=>bF 1 2 (Vd (zm n))
def Hu:F3:=zm 61
def Mx:S3:=Zr (aK (fH (e2 fQ (aC bx (Zb (Za 0) (Zf))) (eC (.int 1))) (fH (e2 cX (aC bx (Zb (Za 0) (Zf))) (rO)) (e2 mX (Za 0) (qp)))) (aQ (eC (.bl false))) (aW)) (aQ (aC sS (Zb (fW (bZ (Za 0)) 1 (bA 1) [] (e2 mX (Za 1) (xM))) (Zf))))
def oE:F3:=bF 1 1 Mx
def Ve:S3:=Zr (aA 1 (eU (e2 Zn (Za 0) (eC (.int 1))) (dG (eC (.int 1))) (fV))) (Zr (aK (fH (e2 fQ (aC bx (Zb (Za 1) (Zf))) (eC (.int 1))) (fH (e2 cX (aC bx (Zb (Za 1) (Zf))) (vp)) (e2 fU (aC Ms (Zb (Za 1) (Zf))) (aC bx (Zb (Za 1) (Zf)))))) (qU) (aW)) (Zr (aK (e1 jr (aC sS (Zb (fW (bZ (Za 1)) 1 (bA 2) [] (Zz oE (Zb (Za 2) (Zf)))) (Zf)))) (qU) (aW)) (aQ (aC gC (Zb (Za 1) (Zf))))))
def Mz:F3:=bF 1 2 Ve
def Zfb:S3:=Zr (G5 [66,108,111,99,107] [104,101,97,100] (Za 0) (Za 1)) (G5 [66,108,111,99,107] [108,105,115,116,115] (Za 0) (aV (Zb (aV (Zf)) (Zf))))
def zp:F3:=bF 2 2 Zfb
def Vf:S3:=Zr (aK (e1 jr (aC sS (Zb (fW (bZ (Za 0)) 1 (bA 3) [] (fH (Zz CK (Zb (Za 3) (Zf))) (fH (Zz oE (Zb (Za 3) (Zf))) (Zz rE (Zb (Za 3) (Zf)))))) (Zf)))) (aQ (eC .non)) (aW)) (Zr (aA 1 (Zz wW (Zb (fW (bZ (Za 0)) 1 (bA 3) [] (kh (Zz rE (Zb (Za 3) (Zf))) (aC uK (Zb (Za 3) (Zf))) (Za 3))) (Zf)))) (Zr (aK (e2 o6 (Za 1) (eC .non)) (aQ (eC .non)) (aW)) (Zr (aA 2 (wG (TV (Za 1)) 2 (o7 [3,4]) [] (e2 aN (Zz Hu (Zb (Za 4) (Zf))) (Za 3)))) (aQ (kh (e2 o5 (aC (Cz 0) (Zb (Za 2) (Zf))) (xJ)) (Za 1) (eC .non))))))
def MF:F3:=bF 1 3 Vf
def Vg:S3:=Zr (aK (fH (e1 (Mt jY) (e2 Zn (Za 0) (eC (.int 0)))) (e2 cX (aC bx (Zb (Za 0) (Zf))) (vy))) (aQ (eC .non)) (aW)) (Zr (aA 1 (kh (e2 bh (e2 Zn (Za 0) (eC (.int 0))) (eC (.str [115,101,116]))) (eC (.int 2)) (eC (.int 1)))) (Zr (aK (e1 jr (aC sS (Zb (fW (bZ (eU (Za 0) (dG (eC (.int 1))) (dG (Za 1)))) 1 (bA 3) [] (Zz oE (Zb (Za 3) (Zf)))) (Zf)))) (aQ (eC .non)) (aW)) (Zr (aA 2 (Zz MF (Zb (eU (Za 0) (dG (Za 1)) (fV)) (Zf)))) (Zr (aK (fH (e2 o6 (Za 2) (eC .non)) (e2 fU (aC bx (Zb (Za 2) (Zf))) (e1 (Hr jY) (e2 Zn (Za 0) (eC (.int 0)))))) (aQ (eC .non)) (aW)) (aQ (aC gC (Zb (e2 aN (eU (Za 0) (fV) (dG (Za 1))) (Za 2)) (Zf))))))))
def Hv:F3:=bF 1 3 Vg
def Vh:S3:=Zr (aA 2 (e2 Zn (Za 0) (e1 cL (eC (.int 1))))) (Zr (aA 3 (e2 bh (e2 (uM oA) (e2 Zn (e1 (jU [66,108,111,99,107] [104,101,97,100]) (Za 2)) (eC (.int 0))) (eC (.int 0))) (aC bx (Zb (e1 (jU [66,108,111,99,107] [108,105,115,116,115]) (Za 2)) (Zf))))) (Zr (aK (e1 (uU oA) (Za 1)) (aQ (e2 o5 (aC bx (Zb (Za 0) (Zf))) (xH))) (aW)) (Zr (aK (e2 bh (Za 1) (eC (.str [101,108,115,101]))) (aQ (bN (e2 bh (e2 Zn (e1 (jU [66,108,111,99,107] [104,101,97,100]) (Za 2)) (eC (.int 0))) (eC (.str [119,104,101,110]))) (e1 jr (Za 3)))) (aW)) (Zr (aK (e2 bh (Za 1) (eC (.str [101,110,100]))) (aQ (Za 3)) (aW)) (aQ (eC (.bl true)))))))
def CN:F3:=bF 2 4 Vh
def zq:S3:=Zr (aA 2 (e2 Zn (Za 0) (e1 cL (eC (.int 1))))) (aK (e1 (uU oA) (e2 Zn (Za 1) (eC (.int 0)))) (aU (aG bj cu (Za 0) (Zb (Cd [66,108,111,99,107] zp (Zb (Za 1) (Zf))) (Zf)))) (aK (e2 bh (e2 Zn (Za 1) (eC (.int 0))) (eC (.str [101,108,115,101]))) (aU (aG bj cu (e1 (jU [66,108,111,99,107] [108,105,115,116,115]) (Za 2)) (Zb (aV (Zf)) (Zf)))) (aK (e2 bh (e2 Zn (Za 1) (eC (.int 0))) (eC (.str [101,110,100]))) (Zr (aU (aG bj pY (Za 0) (Zf))) (Zr (aA 3 (e2 aN (e1 (jU [66,108,111,99,107] [104,101,97,100]) (Za 2)) (aC gC (Zb (fW (bZ (e1 (jU [66,108,111,99,107] [108,105,115,116,115]) (Za 2))) 1 (bA 4) [] (aC gC (Zb (Za 4) (Zf)))) (Zf))))) (aU (aG bj cu (e2 Zn (e1 (jU [66,108,111,99,107] [108,105,115,116,115]) (e2 Zn (Za 0) (e1 cL (eC (.int 1))))) (e1 cL (eC (.int 1)))) (Zb (Za 3) (Zf)))))) (aU (aG bj cu (e2 Zn (e1 (jU [66,108,111,99,107] [108,105,115,116,115]) (Za 2)) (e1 cL (eC (.int 1)))) (Zb (Za 1) (Zf)))))))
def uV:F3:=bF 2 4 zq
def Vi:S3:=Zr (aA 2 (aV (Zb (Cd [66,108,111,99,107] zp (Zb (bY (Zb (eC (.str [112,114,111,103,114,97,109])) (Zf))) (Zf))) (Zf)))) (Zr (lz (bZ (Za 0)) (o7 [3,4]) (Zr (aA 5 (Zz Hv (Zb (Za 4) (Zf)))) (Zr (aK (fH (e2 o6 (Za 5) (eC .non)) (e1 jr (Zz CN (Zb (Za 2) (Zb (e2 Zn (Za 5) (eC (.int 0))) (Zf)))))) (qU) (aW)) (aU (Zz uV (Zb (Za 2) (Zb (Za 5) (Zf)))))))) (Zr (aK (e2 cX (aC bx (Zb (Za 2) (Zf))) (eC (.int 1))) (qU) (aW)) (aQ (aC gC (Zb (e2 Zn (e1 (jU [66,108,111,99,107] [108,105,115,116,115]) (e2 Zn (Za 2) (eC (.int 0)))) (eC (.int 0))) (Zf))))))
def MJ:F3:=bF 2 6 Vi
def MK:S3:=Zr (aA 1 (aG fM p7 (Za 0) (Zb (eC (.str [10])) (Zf)))) (Zr (aA 2 (wG (T3 (Za 1)) 2 (o7 [4,5]) [e2 fU (Za 5) (eC (.str []))] (bY (Zb (Za 4) (Zb (aG fM p7 (Za 5) (Zb (eC (.str [32])) (Zf))) (Zf)))))) (Zr (aA 3 (bY (Zf))) (Zr (aK (bN (e2 cX (aC bx (Zb (Za 2) (Zf))) (eC (.int 0))) (e2 bh (e2 Zn (e2 Zn (e2 Zn (Za 2) (eC (.int 0))) (eC (.int 1))) (eC (.int 0))) (eC (.str [116,97,107,101])))) (Zr (aA 3 (Zz Mz (Zb (e2 Zn (Za 2) (eC (.int 0))) (Zf)))) (aA 2 (eU (Za 2) (dG (eC (.int 1))) (fV)))) (aW)) (aQ (bY (Zb (Za 3) (Zb (Zz MJ (Zb (Za 2) (Zb (e2 aN (aC bx (Zb (Za 1) (Zf))) (eC (.int 1))) (Zf)))) (Zf))))))))
def Hw:F3:=bF 1 4 MK
def oF(rec:Nat->F3):S3:=Zr (aK (e2 bh (e2 Zn (Za 0) (eC (.int 0))) (eC (.str [119,104,101,110]))) (Zr (aA 1 (Zz (rec 0) (Zb (e2 Zn (Za 0) (eC (.int 2))) (Zf)))) (Zr (aA 2 (Zz (rec 0) (Zb (e2 Zn (Za 0) (eC (.int 3))) (Zf)))) (aQ (e2 aN (e2 aN (e2 aN (e2 aN (aV (Zb (e2 aN (bY (Zb (eC (.str [119,104,101,110])) (Zf))) (e2 Zn (Za 0) (eC (.int 1)))) (Zf))) (Za 1)) (aV (Zb (bY (Zb (eC (.str [101,108,115,101])) (Zf))) (Zf)))) (Za 2)) (aV (Zb (bY (Zb (eC (.str [101,110,100])) (Zf))) (Zf))))))) (aW)) (Zr (aK (e2 bh (e2 Zn (Za 0) (eC (.int 0))) (eC (.str [119,104,105,108,101]))) (aQ (e2 aN (e2 aN (aV (Zb (e2 aN (bY (Zb (eC (.str [119,104,105,108,101])) (Zf))) (e2 Zn (Za 0) (eC (.int 1)))) (Zf))) (Zz (rec 0) (Zb (e2 Zn (Za 0) (eC (.int 2))) (Zf)))) (aV (Zb (bY (Zb (eC (.str [101,110,100])) (Zf))) (Zf))))) (aW)) (Zr (aK (e2 bh (e2 Zn (Za 0) (eC (.int 0))) (eC (.str [112,117,116]))) (aQ (aV (Zb (e2 aN (e2 aN (bY (Zb (eC (.str [112,117,116])) (Zf))) (e2 Zn (Za 0) (eC (.int 1)))) (e2 Zn (Za 0) (eC (.int 2)))) (Zf)))) (aW)) (aQ (aV (Zb (e2 aN (eU (Za 0) (fV) (dG (e1 cL (eC (.int 1))))) (e2 Zn (Za 0) (e1 cL (eC (.int 1))))) (Zf))))))
def ZdY(rec:Nat->F3):S3:=Zr (aA 1 (aV (Zf))) (Zr (lz (bZ (Za 0)) (bA 2) (aU (aG bj m_ (Za 1) (Zb (Zz (rec 1) (Zb (Za 2) (Zf))) (Zf))))) (aQ (Za 1)))
def Zy:Nat->Nat->F3
 |0,0=>bF 1 3 qU|0,1=>bF 1 3 qU|n+1,0=>bF 1 3 (ZdY (Zy n))|n+1,1=>bF 1 3 (oF (Zy n))
 |_,_=>λ_ _=>.bad
def MN:F3:=Zy 28 0
def Vj:S3:=Zr (aA 1 (kh (e2 cX (aC bx (Zb (e2 Zn (Za 0) (eC (.int 0))) (Zf))) (eC (.int 0))) (aV (Zb (e2 aN (bY (Zb (eC (.str [116,97,107,101])) (Zf))) (e2 Zn (Za 0) (eC (.int 0)))) (Zf))) (aV (Zf)))) (aQ (e2 aN (Za 1) (Zz MN (Zb (e2 Zn (Za 0) (eC (.int 1))) (Zf)))))
def oG:F3:=bF 1 2 Vj
def Vk:S3:=aQ (aG fM uJ (eC (.str [10])) (Zb (fW (bZ (Zz oG (Zb (Za 0) (Zf)))) 1 (bA 1) [] (Zz Ht (Zb (Za 1) (Zf)))) (Zf)))
def wX:F3:=bF 1 1 Vk
def Vl:S3:=Zr (aA 1 (aC sO (Zb (e2 Zn (Za 0) (eC (.int 0))) (Zf)))) (Zr (lz (bZ (Zz oG (Zb (Za 0) (Zf)))) (bA 2) (lz (bZ (Za 2)) (bA 3) (aK (bN (e1 jr (e1 (jt .int) (Za 3))) (bN (e2 Bx (Za 3) (qp)) (e2 uN (Za 3) (Za 1)))) (aU (aG bj cu (Za 1) (Zb (Za 3) (Zf)))) (aW)))) (aQ (aC gC (Zb (Za 1) (Zf)))))
def zr:F3:=bF 1 4 Vl
def CP:S3:=Zr (aA 1 (e2 Zn (Za 0) (eC (.int 0)))) (Zr (aA 2 (e2 Zn (Za 0) (eC (.int 1)))) (Zr (sV (Za 0) (eC (.int 1)) (e2 aN (Za 2) (eC (.int 1)))) (Zr (aK (e2 fQ (Za 2) (aC bx (Zb (Za 1) (Zf)))) (aQ (e2 Zn (Za 1) (Za 2))) (aW)) (Zr (aK (e2 bh (aC bx (Zb (Za 1) (Zf))) (eC (.int 0))) (aQ (e2 aN (e2 iW (e2 iW (Za 2) (Za 2)) (eC (.int 3))) (Za 2))) (aW)) (aQ (e2 aN (e2 b8 (e2 Zn (Za 1) (e2 aY (Za 2) (aC bx (Zb (Za 1) (Zf))))) (eC (.int 2))) (e2 iW (Za 2) (Za 2))))))))
def mz:F3:=bF 1 3 CP
def tH(rec:F3):S3:=Zr (aK (e1 (GZ .tuple .list) (Za 1)) (Zr (aK (fH (e2 fU (e1 (jt .tuple) (Za 0)) (e1 (jt .tuple) (Za 1))) (e1 jr (e1 (GZ .tuple .list) (Za 0)))) (aQ (eC (.bl false))) (aW)) (aQ (bN (e2 bh (aC bx (Zb (Za 0) (Zf))) (aC bx (Zb (Za 1) (Zf)))) (aC sS (Zb (fW (sW (aC bx (Zb (Za 1) (Zf)))) 1 (bA 2) [] (Zz rec (Zb (e2 Zn (Za 0) (Za 2)) (Zb (e2 Zn (Za 1) (Za 2)) (Zf))))) (Zf)))))) (aW)) (Zr (aK (e1 (jt .str) (Za 1)) (aQ (bN (e1 (jt .str) (Za 0)) (e2 bh (Za 0) (Za 1)))) (aW)) (Zr (aK (e1 (jt .bool) (Za 1)) (aQ (bN (e1 (jt .bool) (Za 0)) (e2 bh (Za 0) (Za 1)))) (aW)) (aQ (bN (e1 (jt .int) (Za 0)) (bN (e1 jr (e1 (jt .bool) (Za 0))) (e2 bh (Za 0) (Za 1)))))))
def qt:Nat->F3
 |0=>bF 2 2 qU|n+1=>bF 2 2 (tH (qt n))
def zu:F3:=qt 31
def Vm:S3:=Zr (aA 1 (aV (Zb (eC (.str [116,97,107,101])) (Zb (eC (.str [115,101,116])) (Zb (eC (.str [112,117,116])) (Zb (eC (.str [116,101,108,108])) (Zb (eC (.str [119,104,101,110])) (Zb (eC (.str [101,108,115,101])) (Zb (eC (.str [119,104,105,108,101])) (Zb (eC (.str [101,110,100])) (Zb (eC (.str [97,100,100])) (Zb (eC (.str [115,117,98])) (Zb (eC (.str [109,111,114,101])) (Zb (eC (.str [99,101,108,108])) (Zf))))))))))))))) (Zr (aA 2 (eC (.str [97,98,99,100,101,102,103,104,105,106,107,108,109,110,111,112,113,114,115,116,117,118,119,120,121,122]))) (Zr (aA 3 (Zz mz (Zb (Za 0) (Zf)))) (Zr (aA 4 (e2 b8 (Za 3) (eC (.int 4)))) (Zr (aA 5 (e2 Zn (Za 2) (e2 aY (Za 4) (eC (.int 26))))) (Zr (aA 6 (e2 Zn (Za 2) (e2 aY (e2 b8 (Za 4) (eC (.int 26))) (eC (.int 26))))) (Zr (aA 7 (aV (Zf))) (Zr (lz (sW (eC (.int 12))) (bA 8) (Zr (aA 9 (e2 Zn (Za 2) (e2 aY (e2 aN (Za 4) (Za 8)) (eC (.int 26))))) (Zr (aA 10 (e2 iW (Za 9) (e2 aN (eC (.int 1)) (e2 aY (e2 b8 (Za 4) (eC (.int 26))) (eC (.int 8)))))) (Zr (aK (e2 bh (e2 aY (Za 3) (eC (.int 4))) (eC (.int 1))) (aA 10 (e2 aN (e2 Zn (Za 1) (e2 aY (e2 aN (Za 8) (Za 4)) (eC (.int 12)))) (Za 6))) (aW)) (Zr (aK (e2 bh (e2 aY (Za 3) (eC (.int 4))) (eC (.int 2))) (Zr (aA 10 (e2 aN (e2 iW (Za 5) (e2 aN (eC (.int 1)) (e2 aY (Za 8) (eC (.int 8))))) (e2 iW (e2 Zn (Za 2) (e2 aY (e2 aN (Za 4) (eC (.int 1))) (eC (.int 26)))) (e2 b8 (Za 8) (eC (.int 8)))))) (aA 10 (eU (Za 10) (fV) (dG (eC (.int 8)))))) (aW)) (Zr (aK (e2 bh (e2 aY (Za 3) (eC (.int 4))) (eC (.int 3))) (aA 10 (e2 aN (e2 aN (Za 6) (Za 9)) (e2 iW (e2 Zn (Za 2) (e2 aY (e2 b8 (Za 4) (eC (.int 7))) (eC (.int 26)))) (e2 aY (e2 b8 (Za 4) (eC (.int 676))) (eC (.int 7)))))) (aW)) (Zr (aK (e2 q8 (Za 10) (Za 1)) (aA 10 (e2 aN (Za 10) (eC (.str [120])))) (aW)) (aU (aG bj cu (Za 7) (Zb (Za 10) (Zf))))))))))) (aQ (Za 7)))))))))
def MP:F3:=bF 1 11 Vm
def Vn:S3:=Zr (aA 1 (e2 aY (e2 b8 (Za 0) (eC (.int 4))) (e2 La (eC (.int 10)) (eC (.int 59))))) (aQ (e2 Zn (aV (Zb (e2 aY (e2 b8 (Za 0) (eC (.int 4))) (eC (.int 12))) (Zb (e2 iH (e1 cL (eC (.int 1))) (e2 aY (e2 b8 (Za 0) (eC (.int 4))) (eC (.int 12)))) (Zb (Za 1) (Zb (e2 iH (e1 cL (eC (.int 1))) (Za 1)) (Zf)))))) (e2 aY (Za 0) (eC (.int 4)))))
def wY:F3:=bF 1 2 Vn
def Vo:S3:=Zr (aA 4 (aV (Zf))) (Zr (aA 5 (aV (Zb (Za 2) (Zf)))) (Zr (TF (e2 fU (Za 5) (aV (Zf))) (Zr (aA 6 (aG bj pY (Za 5) (Zf))) (Zr (aA 7 (Zz mz (Zb (Za 0) (Zf)))) (Zr (aA 8 (e2 iH (e2 iH (e2 iH (Za 3) (aC bx (Zb (Za 4) (Zf)))) (aC bx (Zb (Za 5) (Zf)))) (eC (.int 1)))) (Zr (aA 9 (e2 aY (Za 7) (eC (.int 9)))) (aK (bN (e2 fQ (Za 9) (eC (.int 3))) (bN (e2 cX (Za 6) (eC (.int 1))) (e2 cX (Za 8) (eC (.int 1))))) (Zr (aU (aG bj cu (Za 4) (Zb (e2 Zn (aV (Zb (eC (.str [97,100,100])) (Zb (eC (.str [115,117,98])) (Zb (eC (.str [109,111,114,101])) (Zf))))) (Za 9)) (Zf)))) (aU (aG bj m_ (Za 5) (Zb (aV (Zb (e2 iH (Za 6) (eC (.int 1))) (Zb (Za 6) (Zf)))) (Zf))))) (aK (bN (e2 bh (Za 9) (eC (.int 3))) (e2 cX (Za 8) (eC (.int 0)))) (Zr (aU (aG bj cu (Za 4) (Zb (eC (.str [99,101,108,108])) (Zf)))) (aU (aG bj cu (Za 5) (Zb (Za 6) (Zf))))) (aK (e2 fQ (Za 9) (eC (.int 7))) (aU (aG bj cu (Za 4) (Zb (e2 Zn (Za 1) (e2 aY (e2 b8 (Za 7) (eC (.int 9))) (eC (.int 12)))) (Zf)))) (aU (aG bj cu (Za 4) (Zb (Zz wY (Zb (e2 b8 (Za 7) (eC (.int 9))) (Zf))) (Zf)))))))))))) (aQ (aC gC (Zb (Za 4) (Zf))))))
def uW:F3:=bF 4 10 Vo
def Vp:S3:=Zr (aA 3 (e2 Zn (aV (Zb (eC (.int 3)) (Zb (eC (.int 3)) (Zb (eC (.int 7)) (Zb (eC (.int 20)) (Zf)))))) (e2 aY (e2 b8 (Za 2) (eC (.int 10))) (eC (.int 4))))) (Zr (aK (e2 bh (e2 aY (e2 b8 (Za 2) (eC (.int 40))) (eC (.int 11))) (eC (.int 1))) (aA 3 (eC (.int 29))) (aW)) (Zr (aA 4 (Zz uW (Zb (Za 0) (Zb (Za 1) (Zb (e2 aN (eC (.int 1)) (e2 aY (e2 b8 (Za 2) (eC (.int 3))) (eC (.int 6)))) (Zb (Za 3) (Zf))))))) (Zr (aK (e2 bh (e2 aY (Za 2) (eC (.int 3))) (eC (.int 0))) (aQ (bY (Zb (eC (.str [115,101,116])) (Zb (e2 Zn (Za 1) (e2 aY (e2 b8 (Za 2) (eC (.int 440))) (eC (.int 12)))) (Zb (Za 4) (Zf)))))) (aW)) (Zr (aK (e2 bh (e2 aY (Za 2) (eC (.int 3))) (eC (.int 1))) (aQ (bY (Zb (eC (.str [112,117,116])) (Zb (Za 4) (Zb (Zz uW (Zb (Za 0) (Zb (Za 1) (Zb (e2 aN (eC (.int 1)) (e2 aY (e2 b8 (Za 2) (eC (.int 7))) (eC (.int 5)))) (Zb (Za 3) (Zf)))))) (Zf)))))) (aW)) (aQ (bY (Zb (eC (.str [116,101,108,108])) (Zb (Za 4) (Zf)))))))))
def MT:F3:=bF 3 5 Vp
def Vq:S3:=Zr (aA 1 (aV (Zb (e2 Zn (Za 0) (eC (.int 0))) (Zf)))) (Zr (lz (bZ (eU (Za 0) (dG (eC (.int 1))) (fV))) (bA 2) (aK (e1 (jt .str) (Za 2)) (aU (aG bj cu (Za 1) (Zb (Za 2) (Zf)))) (aU (aG bj m_ (Za 1) (Zb (fW (bZ (Za 2)) 1 (bA 3) [] (aC tu (Zb (Za 3) (Zf)))) (Zf)))))) (aQ (aG fM uJ (eC (.str [32])) (Zb (Za 1) (Zf)))))
def Hx:F3:=bF 1 3 Vq
def Vr:S3:=Zr (qZ (e2 Zn (Za 0) (e1 cL (eC (.int 1)))) [2,3,4,5]) (Zr (aA 6 (bY (Zb (Za 2) (Zb (Za 3) (Zb (aC gC (Zb (Za 1) (Zf))) (Zf)))))) (Zr (aK (e2 bh (Za 2) (eC (.str [119,104,101,110]))) (aA 6 (bY (Zb (Za 2) (Zb (Za 3) (Zb (Za 5) (Zb (aC gC (Zb (Za 1) (Zf))) (Zf))))))) (aW)) (aQ (e2 aN (Za 4) (aV (Zb (Za 6) (Zf)))))))
def wZ:F3:=bF 2 7 Vr
def zx:S3:=Zr (aA 4 (Zz mz (Zb (Za 0) (Zf)))) (Zr (aA 5 (e2 aY (Za 4) (eC (.int 10)))) (Zr (aK (bN (e2 bh (Za 5) (eC (.int 8))) (bN (e2 rC (Za 2) (aV (Zf))) (bN (e2 bh (e2 Zn (e2 Zn (Za 2) (e1 cL (eC (.int 1)))) (eC (.int 0))) (eC (.str [119,104,101,110]))) (e2 o6 (e2 Zn (e2 Zn (Za 2) (e1 cL (eC (.int 1)))) (eC (.int 3))) (eC .non))))) (Zr (sV (e2 Zn (Za 2) (e1 cL (eC (.int 1)))) (eC (.int 3)) (aC gC (Zb (Za 3) (Zf)))) (aQ (aV (Zb (eC (.str [101,108,115,101])) (Zb (aV (Zf)) (Zf)))))) (aW)) (Zr (aK (bN (e2 cX (Za 5) (eC (.int 7))) (bN (e2 rC (Za 2) (aV (Zf))) (fH (e2 bh (e2 Zn (e2 Zn (Za 2) (e1 cL (eC (.int 1)))) (eC (.int 0))) (eC (.str [119,104,105,108,101]))) (e2 Gv (e2 Zn (e2 Zn (Za 2) (e1 cL (eC (.int 1)))) (eC (.int 3))) (eC .non))))) (Zr (aA 3 (Zz wZ (Zb (Za 2) (Zb (Za 3) (Zf))))) (Zr (aU (aG bj pY (Za 2) (Zf))) (aQ (aV (Zb (eC (.str [101,110,100])) (Zb (Za 3) (Zf))))))) (aW)) (Zr (aK (bN (qm o5 fQ (eC (.int 5)) (Za 5) (eC (.int 8))) (e2 fQ (aC bx (Zb (Za 2) (Zf))) (eC (.int 12)))) (Zr (aA 6 (Zz uW (Zb (Za 0) (Zb (Za 1) (Zb (e2 aN (eC (.int 1)) (e2 aY (e2 b8 (Za 4) (eC (.int 30))) (eC (.int 6)))) (Zb (e2 aN (eC (.int 1)) (e2 aY (e2 b8 (Za 4) (eC (.int 10))) (eC (.int 9)))) (Zf))))))) (Zr (aA 7 (e2 Zn (aV (Zb (eC (.str [119,104,101,110])) (Zb (eC (.str [119,104,101,110])) (Zb (eC (.str [119,104,105,108,101])) (Zf))))) (e2 iH (Za 5) (eC (.int 5))))) (Zr (aU (aG bj cu (Za 2) (Zb (aV (Zb (Za 7) (Zb (Za 6) (Zb (Za 3) (Zb (eC .non) (Zf)))))) (Zf)))) (aQ (aV (Zb (Zz Hx (Zb (bY (Zb (Za 7) (Zb (Za 6) (Zf)))) (Zf))) (Zb (aV (Zf)) (Zf)))))))) (aW)) (Zr (aA 8 (Zz MT (Zb (Za 0) (Zb (Za 1) (Zb (e2 b8 (Za 4) (eC (.int 10))) (Zf)))))) (aQ (aV (Zb (Zz Hx (Zb (Za 8) (Zf))) (Zb (e2 aN (Za 3) (aV (Zb (Za 8) (Zf)))) (Zf))))))))))
def zy:F3:=bF 4 9 zx
def Vs:S3:=Zr (aA 4 (aV (Zf))) (Zr (aA 5 (aV (Zf))) (Zr (aA 6 (aV (Zf))) (Zr (aA 7 (eC (.int 0))) (Zr (lz (sW (Za 2)) (bA 8) (Zr (aA 9 (fW (bZ (Za 5)) 1 (bA 12) [] (aC sO (Zb (Za 12) (Zf))))) (Zr (qZ (Zz zy (Zb (Za 0) (Zb (Za 1) (Zb (Za 5) (Zb (Za 6) (Zf)))))) [10,11]) (Zr (aK (e2 cX (e2 aN (Za 7) (aC bx (Zb (Za 10) (Zf)))) (Za 3)) (Zr (aA 5 (Za 9)) (Tz)) (aW)) (Zr (aA 6 (Za 11)) (Zr (aA 7 (e2 aN (e2 aN (Za 7) (aC bx (Zb (Za 10) (Zf)))) (eC (.int 1)))) (aU (aG bj cu (Za 4) (Zb (Za 10) (Zf)))))))))) (Zr (TF (e2 rC (Za 5) (aV (Zf))) (Zr (aK (bN (e2 bh (e2 Zn (e2 Zn (Za 5) (e1 cL (eC (.int 1)))) (eC (.int 0))) (eC (.str [119,104,101,110]))) (e2 o6 (e2 Zn (e2 Zn (Za 5) (e1 cL (eC (.int 1)))) (eC (.int 3))) (eC .non))) (Zr (sV (e2 Zn (Za 5) (e1 cL (eC (.int 1)))) (eC (.int 3)) (aC gC (Zb (Za 6) (Zf)))) (Zr (aA 6 (aV (Zf))) (aU (aG bj cu (Za 4) (Zb (eC (.str [101,108,115,101])) (Zf)))))) (aW)) (Zr (aA 6 (Zz wZ (Zb (Za 5) (Zb (Za 6) (Zf))))) (Zr (aU (aG bj pY (Za 5) (Zf))) (aU (aG bj cu (Za 4) (Zb (eC (.str [101,110,100])) (Zf)))))))) (aQ (aV (Zb (Za 4) (Zb (aC gC (Zb (Za 6) (Zf))) (Zf))))))))))
def M7:F3:=bF 4 12 Vs
def Vt:S3:=Zr (aA 2 (Zz mz (Zb (Za 0) (Zf)))) (aQ (aC gC (Zb (fW (sW (e2 aY (Za 2) (eC (.int 7)))) 1 (bA 3) [] (e2 Zn (Za 1) (e2 aY (e2 aN (e2 b8 (Za 2) (eC (.int 7))) (Za 3)) (eC (.int 12))))) (Zf))))
def M8:F3:=bF 2 3 Vt
def Vu:S3:=Zr (aA 2 (aV (Zf))) (Zr (lz (bZ (Za 0)) (bA 3) (lz (bZ (aG fM p7 (Za 3) (Zb (eC (.str [32])) (Zf)))) (bA 4) (aK (bN (e2 q8 (Za 4) (Za 1)) (e2 uN (Za 4) (Za 2))) (aU (aG bj cu (Za 2) (Zb (Za 4) (Zf)))) (aW)))) (aQ (aC gC (Zb (Za 2) (Zf)))))
def Hy:F3:=bF 2 5 Vu
def Vv:S3:=Zr (aA 1 (aV (Zb (eU (Za 0) (fV) (dG (eC (.int 400)))) (Zb (eC (.int 0)) (Zf))))) (Zr (aA 2 (Zz MP (Zb (Za 1) (Zf)))) (Zr (aA 3 (Zz M8 (Zb (Za 1) (Zb (Za 2) (Zf))))) (Zr (qZ (Zz M7 (Zb (Za 1) (Zb (Za 2) (Zb (aC bx (Zb (eU (Za 0) (fV) (dG (eC (.int 400)))) (Zf))) (Zb (eC (.int 3400)) (Zf)))))) [4,5]) (Zr (aK (e2 fU (Za 3) (bY (Zf))) (aA 4 (e2 aN (aV (Zb (aG fM wV (eC (.str [32])) (Zb (e2 aN (bY (Zb (eC (.str [116,97,107,101])) (Zf))) (Za 3)) (Zf))) (Zf))) (Za 4))) (aW)) (Zr (aA 6 (bY (Zb (Za 3) (Zb (Za 5) (Zf))))) (Zr (aK (fH (e2 fU (Zz wX (Zb (bY (Zb (bY (Zf)) (Zb (bY (Zf)) (Zf)))) (Zf))) (eC (.str []))) (e1 jr (Zz zu (Zb (Zz zr (Zb (bY (Zb (bY (Zf)) (Zb (bY (Zf)) (Zf)))) (Zf))) (Zb (bY (Zf)) (Zf)))))) (aQ (eC (.bl false))) (aW)) (Zr (aA 7 (Zz wX (Zb (Za 6) (Zf)))) (Zr (aK (fH (e1 jr (e1 (jt .str) (Za 7))) (e2 fU (Za 7) (aG fM uJ (eC (.str [10])) (Zb (Za 4) (Zf))))) (aQ (eC (.bl false))) (aW)) (Zr (aK (e1 jr (Zz zu (Zb (Zz zr (Zb (Za 6) (Zf))) (Zb (Zz Hy (Zb (Za 4) (Zb (Za 2) (Zf)))) (Zf))))) (aQ (eC (.bl false))) (aW)) (aQ (bN (Zz zu (Zb (Zz Hw (Zb (Za 7) (Zf))) (Zb (Za 6) (Zf)))) (e2 bh (Zz wX (Zb (Za 6) (Zf))) (Za 7)))))))))))))
def Zpb:F3:=bF 1 8 Vv
end
end _Law
namespace _Law
open PySem PySem.Spec PyProof.Rows _L2 _L3
noncomputable def top(i:Nat):Yep:=PySem.Challenge.pw_stepledger_k62_whole_shown_and_read.main.body.getD i (.Pass ⟨0,0,0,0⟩)
noncomputable abbrev CQ:Yep:=top 6
noncomputable abbrev CV:Yep:=top 7
noncomputable abbrev CZ:Yep:=top 10
noncomputable abbrev C_:Yep:=top 11
noncomputable abbrev Dc:Yep:=top 12
noncomputable abbrev Dd:Yep:=top 13
noncomputable abbrev Df:Yep:=top 25
noncomputable abbrev Dg:Yep:=top 26
noncomputable abbrev Dh:Yep:=top 27
noncomputable abbrev Di:Yep:=top 28
noncomputable abbrev Dj:Yep:=top 29
noncomputable abbrev Dk:Yep:=top 30
noncomputable abbrev Dl:Yep:=top 31
noncomputable abbrev Dm:Yep:=top 32
noncomputable abbrev Dn:Yep:=top 33
noncomputable abbrev Dp:Yep:=top 34
noncomputable abbrev Dq:Yep:=top 35
noncomputable abbrev Ds:Yep:=top 36
noncomputable abbrev Dt:Yep:=top 37
noncomputable abbrev Du:Yep:=top 39
noncomputable abbrev Dv:Yep:=top 40
noncomputable abbrev Dw:Yep:=top 41
noncomputable abbrev Dy:Yep:=top 42
noncomputable abbrev Dz:Yep:=top 43
noncomputable abbrev DG:Yep:=top 44
noncomputable abbrev DK:Yep:=top 45
noncomputable abbrev DN:Yep:=top 46
noncomputable abbrev DP:Yep:=top 47
noncomputable abbrev DQ:Yep:=top 48
noncomputable abbrev DR:Yep:=top 49
noncomputable abbrev DW:Yep:=top 50
noncomputable abbrev uX:Yep:=top 51
noncomputable abbrev DX:Yep:=(Zts (top 24)).getD 0 (.Pass ⟨0,0,0,0⟩)
structure Hz(K:W.Frag)(mg:aj->Option Yh)(C:Y4):Prop where
  ok:zf K [66,108,111,99,107] C
  mg:mg "Block" =Ya (.ref C)
  Iz:sH K C (nm [104,101,97,100])
  xN:sH K C (nm [108,105,115,116,115])
structure Txt(K:W.Frag)(mg:aj->Option Yh):Prop where
  Gh:True
  zW:mg "all" =Ym
  Pb:mg "bool" =Ym
  Oz:mg "enumerate" =Ym
  Pj:mg "int" =Ym
  oU:mg "isinstance" =Ym
  gh:mg "len" =Ym
  IK:mg "list" =Ym
  XQ:mg "max" =Ym
  Iv:mg "range" =Ym
  Abo:mg "set" =Ym
  zX:mg "str" =Ym
  jE:mg "tuple" =Ym
  vz:∃t,mg "FIGURES" =Ya (.str "0123456789" t)
  xM:∃t,mg "LETTERS" =Ya (.str "abcdefghijklmnopqrstuvwxyz" t)
  Xx:∃a,mg "LISTS" =Ya (.ref a)/\nC K a oA
  xH:∃t,mg "MOST_BLOCKS" =Ya (.int 12 t)
  xJ:∃t,mg "MOST_DEPTH" =Ya (.int 6 t)
  rN:∃t,mg "MOST_FIGURES" =Ya (.int 60 t)
  rO:∃t,mg "MOST_LETTERS" =Ya (.int 8 t)
  vp:∃t,mg "MOST_TAKEN" =Ya (.int 6 t)
  vy:∃t,mg "MOST_WORDS" =Ya (.int 60 t)
  Xy:∃a,mg "PARTS" =Ya (.ref a)/\nC K a pB
  XF:∃a,mg "SUMS" =Ya (.ref a)/\nC K a jY
  Aa5:∃a,mg "WORDS" =Ya (.ref a)/\Cv K (Zx.map λy=>(⟨y.toArray⟩:aj)) (.ref a)=true
variable{pos:aZ}{X:Cx}
theorem Zn2(T:Txt X.K X.mg)(hg:autoParam (Gl X "FIGURES") qA):C3 X (.Name "FIGURES" pos) vz:=by obtain⟨t,e⟩:=T.vz;refine uO (v:=.str ⟨([48,49,50,51,52,53,54,55,56,57]:List Nat).toArray⟩) e ⟨t,?_⟩ (λ_ _=>Rep.str) hg;exact congrArg (λz=>Value.str z t) (by decide +kernel)
theorem ZnA(T:Txt X.K X.mg)(hg:autoParam (Gl X "LETTERS") qA):C3 X (.Name "LETTERS" pos) xM:=by obtain⟨t,e⟩:=T.xM;refine uO (v:=.str ⟨([97,98,99,100,101,102,103,104,105,106,107,108,109,110,111,112,113,114,115,116,117,118,119,120,121,122]:List Nat).toArray⟩) e ⟨t,?_⟩ (λ_ _=>Rep.str) hg;exact congrArg (λz=>Value.str z t) (by decide +kernel)
variable{g:E3}{e:Expr}{npos:aZ}
theorem Zoh{e':Expr}{apos cpos:aZ}{g':E3}(T:Txt X.K X.mg)(he:C3 X e g)(he':C3 X e' g')(m:M2 X (.Name "LISTS" npos) "get" apos e e' cpos:=by exact⟨rfl,rfl,rfl,rfl⟩)(hg:autoParam (Gl X "LISTS") qA):C3 X (.Call (.Attribute (.Name "LISTS" npos) "get" apos) [e,e'] [] cpos) (e2 (uM oA) g g'):=by obtain⟨a,hm,ht⟩:=T.Xx;exact ZoP hm ht he he' m hg
theorem ZiB(T:Txt X.K X.mg)(he:C3 X e g)(hg:autoParam (Gl X "LISTS") qA):CT X (.Compare e [.In] [.Name "LISTS" npos] pos) (e1 (uU oA) g):=by obtain⟨a,hm,ht⟩:=T.Xx;exact ZsI hm ht he hg
theorem ZjN(T:Txt X.K X.mg)(hg:autoParam (Gl X "MOST_BLOCKS") qA):C3 X (.Name "MOST_BLOCKS" pos) xH:=by obtain⟨t,e⟩:=T.xH;exact uO (v:=.int 12) e ⟨t,rfl⟩ (λ_ _=>Rep.int) hg
theorem Zkc(T:Txt X.K X.mg)(hg:autoParam (Gl X "MOST_DEPTH") qA):C3 X (.Name "MOST_DEPTH" pos) xJ:=by obtain⟨t,e⟩:=T.xJ;exact uO (v:=.int 6) e ⟨t,rfl⟩ (λ_ _=>Rep.int) hg
theorem ZiQ(T:Txt X.K X.mg)(hg:autoParam (Gl X "MOST_FIGURES") qA):C3 X (.Name "MOST_FIGURES" pos) rN:=by obtain⟨t,e⟩:=T.rN;exact uO (v:=.int 60) e ⟨t,rfl⟩ (λ_ _=>Rep.int) hg
theorem ZiV(T:Txt X.K X.mg)(hg:autoParam (Gl X "MOST_LETTERS") qA):C3 X (.Name "MOST_LETTERS" pos) rO:=by obtain⟨t,e⟩:=T.rO;exact uO (v:=.int 8) e ⟨t,rfl⟩ (λ_ _=>Rep.int) hg
theorem Zkh(T:Txt X.K X.mg)(hg:autoParam (Gl X "MOST_TAKEN") qA):C3 X (.Name "MOST_TAKEN" pos) vp:=by obtain⟨t,e⟩:=T.vp;exact uO (v:=.int 6) e ⟨t,rfl⟩ (λ_ _=>Rep.int) hg
theorem Zkl(T:Txt X.K X.mg)(hg:autoParam (Gl X "MOST_WORDS") qA):C3 X (.Name "MOST_WORDS" pos) vy:=by obtain⟨t,e⟩:=T.vy;exact uO (v:=.int 60) e ⟨t,rfl⟩ (λ_ _=>Rep.int) hg
theorem ZnQ{e':Expr}{apos cpos:aZ}{g':E3}(T:Txt X.K X.mg)(he:C3 X e g)(he':C3 X e' g')(m:M2 X (.Name "PARTS" npos) "get" apos e e' cpos:=by exact⟨rfl,rfl,rfl,rfl⟩)(hg:autoParam (Gl X "PARTS") qA):C3 X (.Call (.Attribute (.Name "PARTS" npos) "get" apos) [e,e'] [] cpos) (e2 (uM pB) g g'):=by obtain⟨a,hm,ht⟩:=T.Xy;exact ZoP hm ht he he' m hg
theorem ZnX(T:Txt X.K X.mg)(he:C3 X e g)(hg:autoParam (Gl X "PARTS") qA):C3 X (.Compare e [.In] [.Name "PARTS" npos] pos) (e1 (uU pB) g):=by obtain⟨a,hm,ht⟩:=T.Xy;exact Zuf hm ht he hg
theorem Zkj(T:Txt X.K X.mg)(he:C3 X e g)(hg:autoParam (Gl X "SUMS") qA):CT X (.Compare e [.NotIn] [.Name "SUMS" npos] pos) (e1 (Mt jY) g):=by obtain⟨a,hm,ht⟩:=T.XF;exact Zmx hm ht he hg
theorem Zp7(T:Txt X.K X.mg)(he:C3 X e g)(hs:K_ e:=by exactλ_ _=>rfl)(hg:autoParam (Gl X "SUMS") qA):C3 X (.Subscript (.Name "SUMS" npos) e pos) (e1 (Hr jY) g):=by obtain⟨a,hm,ht⟩:=T.XF;exact ZtB hm ht he hs hg
theorem Zms(T:Txt X.K X.mg)(hg:autoParam (Gl X "WORDS") qA):C3 X (.Name "WORDS" pos) qp:=by obtain⟨a,hm,ht⟩:=T.Aa5;exact Ztf hm ht hg
section
variable {P:bR} {w:bJ} {K:W.Frag} {mg:aj->Option Yh} {base:aR}
theorem ZhD:dg ["word","figures"] ["word"] (Zk CQ):=⟨rfl,rfl,rfl,by decide +kernel,rfl,by decide +kernel,by decide +kernel⟩
theorem ZlH(A:bC K mg "is_number" CQ ["word"])(T:Txt K mg):aD P w K mg base 1 "is_number" ["word"] rE:=
  aD.of (N:=["word","figures"]) (k:=0) A ZhD λf cdv A outer s H E hr=>by
    have hu:=eE hr;unfold Hs;refine Zg ?_ ?_
    .exact Zw 1 ZhD.nd (Cg (lZ (Ze9 (Zd 0) (Zc bB Ze))) (qg ql (Zd 0) (ph Zj) q_) (Zd 0))
    .refine Zg ?_ ?_
     .refine bT ?_ ?_ ?_
      .refine CW.ct ?_;refine qe ?_ ?_
       .exact bw wL (d_ (id:="len") gJ T.gh gq (Zc (Zd 1) Ze)) Zj
       .exact tD (bw qi (d_ (id:="len") gJ T.gh gq (Zc (Zd 1) Ze)) (ZiQ T))
      .exact Zm (bH yR)
      .exact cM
     .refine Zg ?_ ?_
      .exact bT (lZ (Ze9 (Zd 1) (Zc bB Ze))) (Zm (bH (q9 ((eY hu)) (Zd 0) bB))) cM
      .refine Zm ?_;refine bH ?_;refine d_ (id:="all") ?_ ?_ ?_ ?_
       .exact(Cq rfl)
       .exact T.zW
       .exact Cp
       .exact Zc (pA (N':=["word","figures","figure"]) (lH rfl (by kernel_rfl)) rfl rfl (jw (Zd 1)) (λC cl s H ex=>⟨(iJ 2 ((show jm (["word","figures","figure"]:List aj)by decide +kernel))),mj,(q9 ((Ut hu)) (Zd 2) (Zn2 T))⟩)) Ze
theorem Zlt:dg ["row"] ["row"] (Zk CV):=⟨rfl,rfl,rfl,by decide +kernel,rfl,by decide +kernel,by decide +kernel⟩
theorem Zlw(A:bC K mg "shown_row" CV ["row"])(T:Txt K mg):aD P w K mg base 1 "shown_row" ["row"] Ht:=
  aD.of (N:=["row"]) (k:=0) A Zlt λf cdv A outer s H E hr=>by
    have hu:=eE hr;unfold Va;refine Zm ?_;refine bH ?_;refine Mm ?_ ?_
    .exact bB
    .refine Zc ?_ ?_
     .exact pA (N':=["row","word"]) (lH rfl (by kernel_rfl)) rfl rfl (jw (Zd 0)) (λC cl s H ex=>⟨(iJ 1 ((show jm (["row","word"]:List aj)by decide +kernel))),mj,(ju (T:="str") ZuQ T.zX Zry (Zc (Zd 1) Ze))⟩)
     .exact Ze
theorem DY:dg ["words","sums","lacking","word"] ["words"] (Zk CZ):=⟨rfl,rfl,rfl,by decide +kernel,rfl,by decide +kernel,by decide +kernel⟩
theorem Zn3(A:bC K mg "sums_in" CZ ["words"])(T:Txt K mg):aD P w K mg base 1 "sums_in" ["words"] wW:=
  aD.of (N:=["words","sums","lacking","word"]) (k:=0) A DY λf cdv A outer s H E hr=>by
    have hu:=eE hr;unfold Vb;refine Zg ?_ ?_
    .exact Zw 1 DY.nd (cG Ze)
    .refine Zg ?_ ?_
     .exact Zw 2 DY.nd Zj
     .refine Zg ?_ ?_
      .refine tE ?_ ?_ ?_ ?_ ?_
       .exact rfl
       .exact rfl
       .exact jw (Zd 0)
       .exact iJ 3 DY.nd
       .refine Zg ?_ ?_
        .refine bT ?_ ?_ ?_
         .exact bw ((eY hu)) (Zd 2) Zj
         .exact Zg (gQ (jX (Zd 1) (Zc (cG Ze) Ze))) (Zm (Zw 2 DY.nd Zj))
         .exact cM
        .refine Zg ?_ ?_
         .exact gQ (jX (a_ bf (Zd 1) (jV jW Zj)) (Zc (Zd 3) Ze))
         .exact Zm (Zw 2 DY.nd (Zu cP (Zu wK (Zd 2) Zj) (ZnQ T (Zd 3) Zj)))
      .refine Zm ?_;refine bH ?_;refine Cg ?_ ?_ ?_
       .exact bw ((eY hu)) (Zd 2) Zj
       .exact pA (N':=["words","sums","lacking","word","one"]) (lH rfl (by kernel_rfl)) rfl rfl (jw (Zd 1)) (λC cl s H ex=>⟨(iJ 4 ((show jm (["words","sums","lacking","word","one"]:List aj)by decide +kernel))),mj,(ju (T:="tuple") nu T.jE nA (Zc (Zd 4) Ze))⟩)
       .exact n8
theorem Zkr:dg ["word"] ["word"] (Zk C_):=⟨rfl,rfl,rfl,by decide +kernel,rfl,by decide +kernel,by decide +kernel⟩
theorem Zkk(A:bC K mg "needs_sums" C_ ["word"])(T:Txt K mg):aD P w K mg base 1 "needs_sums" ["word"] CK:=aD.of (N:=["word"]) (k:=0) A Zkr λf cdv A outer s H E hr=>by have hu:=eE hr;unfold Zh4;exact Zm (bH (ZnX T (Zd 0)))
theorem Zng:dg ["words"] ["words"] (Zk Dc):=⟨rfl,rfl,rfl,by decide +kernel,rfl,by decide +kernel,by decide +kernel⟩
theorem ZmV(A:bC K mg "parts_of" Dc ["words"])(T:Txt K mg)(zV:aD P w K mg base 1 "sums_in" ["words"] wW):aD P w K mg base 2 "parts_of" ["words"] Mw:=aD.of (N:=["words"]) (k:=1) A Zng λf cdv A outer s H E hr=>by have hu:=eE hr;unfold Vc;exact Zm (bH (bO (k:=1) (ps:=["words"]) zV (hr.mono (by decide)) (Zc (qg ql (Zd 0) (ph Zj) q_) Ze)))
theorem Vw:dg ["words","parts"] ["words"] (Zk Dd):=⟨rfl,rfl,rfl,by decide +kernel,rfl,by decide +kernel,by decide +kernel⟩
theorem Zrj(A:bC K mg "depth" Dd ["words"])(T:Txt K mg)(O5:aD P w K mg base 2 "parts_of" ["words"] Mw):aD P w K mg base 64 "depth" ["words"] Hu:=by
  have all:∀n:Nat,aD P w K mg base (n+3) "depth" ["words"] (zm n):=by
    intro n
    induction n with
    |zero=>exact aD.of (N:=["words","parts"]) (k:=2) A Vw λf cdv A outer s H E hr=>Mi|succ n IH=>
      refine(aD.of (N:=["words","parts"]) (k:=n+3) A Vw λf cdv A outer s H E hr=>?_).mono (by omega);have hu:=eE hr;unfold Vd;refine Zg ?_ ?_
      .exact Zw 1 Vw.nd (bO (k:=2) (ps:=["words"]) O5 (hr.mono (by omega)) (Zc (Zd 0) Ze))
      .refine Zm ?_;refine bH ?_;refine ZqY ?_ ?_
       .exact T.XQ
       .refine Zym (N':=["words","parts","deeper","part"]) ?_ ?_ ?_ ?_ (λC cl s H ex=>⟨?_,?_,?_⟩)
        .exact lH rfl (by kernel_rfl)
        .exact rfl
        .exact rfl
        .exact Zpj T.Oz (Zd 1)
        .exact Lq rfl (l_ 2 ((show jm (["words","parts","deeper","part"]:List aj)by decide +kernel)) (l_ 3 ((show jm (["words","parts","deeper","part"]:List aj)by decide +kernel)) yV))
        .exact mj
        .exact Zu cP (bO (k:=n+3) (ps:=["words"]) IH hr (Zc (Zd 3) Ze)) (Zd 2)
  exact all 61
theorem Zol:dg ["word"] ["word"] (Zk Dh):=⟨rfl,rfl,rfl,by decide +kernel,rfl,by decide +kernel,by decide +kernel⟩
theorem ZnD(A:bC K mg "is_name" Dh ["word"])(T:Txt K mg):aD P w K mg base 1 "is_name" ["word"] oE:=
  aD.of (N:=["word"]) (k:=0) A Zol λf cdv A outer s H E hr=>by
    have hu:=eE hr;unfold Mx;refine Zg ?_ ?_
    .refine bT ?_ ?_ ?_
     .refine CW.ct ?_;refine qe ?_ ?_
      .exact bw wL (d_ (id:="len") gJ T.gh gq (Zc (Zd 0) Ze)) Zj
      .refine qe ?_ ?_
       .exact bw qi (d_ (id:="len") gJ T.gh gq (Zc (Zd 0) Ze)) (ZiV T)
       .exact tD (bw ((Ut hu)) (Zd 0) (Zms T))
     .exact Zm (bH yR)
     .exact cM
    .refine Zm ?_;refine bH ?_;refine d_ (id:="all") ?_ ?_ ?_ ?_
     .exact(Cq rfl)
     .exact T.zW
     .exact Cp
     .exact Zc (pA (N':=["word","letter"]) (lH rfl (by kernel_rfl)) rfl rfl (jw (Zd 0)) (λC cl s H ex=>⟨(iJ 1 ((show jm (["word","letter"]:List aj)by decide +kernel))),mj,(q9 ((Ut hu)) (Zd 1) (ZnA T))⟩)) Ze
theorem ZgT:dg ["row","names"] ["row"] (Zk Dg):=⟨rfl,rfl,rfl,by decide +kernel,rfl,by decide +kernel,by decide +kernel⟩
theorem Zku(A:bC K mg "read_taken" Dg ["row"])(T:Txt K mg)(tQ:aD P w K mg base 1 "is_name" ["word"] oE):aD P w K mg base 2 "read_taken" ["row"] Mz:=
  aD.of (N:=["row","names"]) (k:=1) A ZgT λf cdv A outer s H E hr=>by
    have hu:=eE hr;unfold Ve;refine Zg ?_ ?_
    .exact Zw 1 ZgT.nd (qg ql (a_ bf (Zd 0) Zj) (ph Zj) q_)
    .refine Zg ?_ ?_
     .refine bT ?_ ?_ ?_
      .refine CW.ct ?_;refine qe ?_ ?_
       .exact bw wL (d_ (id:="len") gJ T.gh gq (Zc (Zd 1) Ze)) Zj
       .refine qe ?_ ?_
        .exact bw qi (d_ (id:="len") gJ T.gh gq (Zc (Zd 1) Ze)) (Zkh T)
        .exact tD (bw ((wR hu)) (ZqN T.gh T.Abo (Zd 1)) (d_ (id:="len") gJ T.gh gq (Zc (Zd 1) Ze)))
      .exact Zm Lp
      .exact cM
     .refine Zg ?_ ?_
      .refine bT ?_ ?_ ?_
       .refine uQ ?_;refine lZ ?_;refine d_ (id:="all") ?_ ?_ ?_ ?_
        .exact(Cq rfl)
        .exact T.zW
        .exact Cp
        .refine Zc ?_ ?_
         .exact pA (N':=["row","names","name"]) (lH rfl (by kernel_rfl)) rfl rfl (jw (Zd 1)) (λC cl s H ex=>⟨(iJ 2 ((show jm (["row","names","name"]:List aj)by decide +kernel))),mj,(bO (k:=1) (ps:=["word"]) tQ (hr.mono (by decide)) (Zc (Zd 2) Ze))⟩)
         .exact Ze
       .exact Zm Lp
       .exact cM
      .exact Zm (bH (ju (T:="tuple") nu T.jE nA (Zc (Zd 1) Ze)))
theorem ZhI:dg ["self","head"] ["self","head"] (Zk DX):=⟨rfl,rfl,rfl,by decide +kernel,rfl,by decide +kernel,by decide +kernel⟩
theorem Zhs{dm:Y4}(dO:Hz K mg dm)(A:Mr K dm "Block.__init__" DX ["self","head"])(T:Txt K mg):zj P w K mg base 1 dm ["self","head"] zp:=zj.of (N:=["self","head"]) (k:=0) A ZhI λf cdv A outer s H E hr=>by have hu:=eE hr;unfold Zfb;exact Zg (ZrG (C:=dm) (c:=[66,108,111,99,107]) (m:=[104,101,97,100]) dO.ok dO.Iz (Zd 0) (Zd 1)) (Zm (ZrG (C:=dm) (c:=[66,108,111,99,107]) (m:=[108,105,115,116,115]) dO.ok dO.xN (Zd 0) (cG (Zc (cG Ze) Ze))))
theorem Vx:dg ["words","sums","depths"] ["words"] (Zk Dk):=⟨rfl,rfl,rfl,by decide +kernel,rfl,by decide +kernel,by decide +kernel⟩
theorem Zlu(A:bC K mg "read_sums" Dk ["words"])(T:Txt K mg)(Ip:aD P w K mg base 1 "is_number" ["word"] rE)(zV:aD P w K mg base 1 "sums_in" ["words"] wW)(Om:aD P w K mg base 1 "needs_sums" ["word"] CK)(O_:aD P w K mg base 64 "depth" ["words"] Hu)(tQ:aD P w K mg base 1 "is_name" ["word"] oE):aD P w K mg base 65 "read_sums" ["words"] MF:=
  aD.of (N:=["words","sums","depths"]) (k:=64) A Vx λf cdv A outer s H E hr=>by
    have hu:=eE hr;unfold Vf;refine Zg ?_ ?_
    .refine bT ?_ ?_ ?_
     .refine uQ ?_;refine lZ ?_;refine d_ (id:="all") ?_ ?_ ?_ ?_
      .exact(Cq rfl)
      .exact T.zW
      .exact Cp
      .refine Zc ?_ ?_
       .refine pA (N':=["words","sums","depths","word"]) ?_ ?_ ?_ ?_ (λC cl s H ex=>⟨?_,?_,?_⟩)
        .exact lH rfl (by kernel_rfl)
        .exact rfl
        .exact rfl
        .exact jw (Zd 0)
        .exact iJ 3 ((show jm (["words","sums","depths","word"]:List aj)by decide +kernel))
        .exact mj
        .refine ZxO ?_ ?_
         .exact bO (k:=1) (ps:=["word"]) Om (hr.mono (by decide)) (Zc (Zd 3) Ze)
         .exact ZxO (bO (k:=1) (ps:=["word"]) tQ (hr.mono (by decide)) (Zc (Zd 3) Ze)) (yS (bO (k:=1) (ps:=["word"]) Ip (hr.mono (by decide)) (Zc (Zd 3) Ze)))
       .exact Ze
     .exact Zm (bH n8)
     .exact cM
    .refine Zg ?_ ?_
     .refine Zw 1 ?_ ?_
      .exact Vx.nd
      .refine bO (k:=1) (ps:=["words"]) ?_ ?_ ?_
       .exact zV
       .exact hr.mono (by decide)
       .refine Zc ?_ ?_
        .refine pA (N':=["words","sums","depths","word"]) ?_ ?_ ?_ ?_ (λC cl s H ex=>⟨?_,?_,?_⟩)
         .exact lH rfl (by kernel_rfl)
         .exact rfl
         .exact rfl
         .exact jw (Zd 0)
         .exact iJ 3 ((show jm (["words","sums","depths","word"]:List aj)by decide +kernel))
         .exact mj
         .exact Cg (lZ (bO (k:=1) (ps:=["word"]) Ip (hr.mono (by decide)) (Zc (Zd 3) Ze))) (ju (T:="int") Zv6 T.Pj Zwd (Zc (Zd 3) Ze)) (Zd 3)
        .exact Ze
     .refine Zg ?_ ?_
      .exact bT (bw Hf (Zd 1) n8) (Zm (bH n8)) cM
      .refine Zg ?_ ?_
       .refine Zk2 (N':=["words","sums","depths","deeper","one"]) 2 ?_ ?_ ?_ ?_ ?_ (λC cl s H ex=>⟨?_,?_,?_⟩)
        .exact lH rfl (by kernel_rfl)
        .exact rfl
        .exact rfl
        .exact Vx.nd
        .exact Zpj T.Oz (Zd 1)
        .exact Lq rfl (l_ 3 ((show jm (["words","sums","depths","deeper","one"]:List aj)by decide +kernel)) (l_ 4 ((show jm (["words","sums","depths","deeper","one"]:List aj)by decide +kernel)) yV))
        .exact mj
        .exact Zu cP (bO (k:=64) (ps:=["words"]) O_ (hr.mono (by decide)) (Zc (Zd 4) Ze)) (Zd 3)
       .exact Zm (bH (Cg (bw T6 (ZqY T.XQ (Zd 2)) (Zkc T)) (Zd 1) n8))
theorem Vy:dg ["words","begin","sums"] ["words"] (Zk Dj):=⟨rfl,rfl,rfl,by decide +kernel,rfl,by decide +kernel,by decide +kernel⟩
theorem Zlb(A:bC K mg "read_deed" Dj ["words"])(T:Txt K mg)(tQ:aD P w K mg base 1 "is_name" ["word"] oE)(OD:aD P w K mg base 65 "read_sums" ["words"] MF):aD P w K mg base 66 "read_deed" ["words"] Hv:=
  aD.of (N:=["words","begin","sums"]) (k:=65) A Vy λf cdv A outer s H E hr=>by
    have hu:=eE hr;unfold Vg;refine Zg ?_ ?_
    .refine bT ?_ ?_ ?_
     .refine CW.ct ?_;refine qe ?_ ?_
      .exact Zkj T (a_ bf (Zd 0) Zj)
      .exact tD (bw qi (d_ (id:="len") gJ T.gh gq (Zc (Zd 0) Ze)) (Zkl T))
     .exact Zm (bH n8)
     .exact cM
    .refine Zg ?_ ?_
     .exact Zw 1 Vy.nd (Cg (bw ((eY hu)) (a_ bf (Zd 0) Zj) bB) Zj Zj)
     .refine Zg ?_ ?_
      .refine bT ?_ ?_ ?_
       .refine uQ ?_;refine lZ ?_;refine d_ (id:="all") ?_ ?_ ?_ ?_
        .exact(Cq rfl)
        .exact T.zW
        .exact Cp
        .refine Zc ?_ ?_
         .refine pA (N':=["words","begin","sums","word"]) ?_ ?_ ?_ ?_ (λC cl s H ex=>⟨?_,?_,?_⟩)
          .exact lH rfl (by kernel_rfl)
          .exact rfl
          .exact rfl
          .exact jw (qg ql (Zd 0) (ph Zj) (ph (Zd 1)))
          .exact iJ 3 ((show jm (["words","begin","sums","word"]:List aj)by decide +kernel))
          .exact mj
          .exact bO (k:=1) (ps:=["word"]) tQ (hr.mono (by decide)) (Zc (Zd 3) Ze)
         .exact Ze
       .exact Zm (bH n8)
       .exact cM
      .refine Zg ?_ ?_
       .exact Zw 2 Vy.nd (bO (k:=65) (ps:=["words"]) OD (hr.mono (by decide)) (Zc (qg ql (Zd 0) (ph (Zd 1)) q_) Ze))
       .refine Zg ?_ ?_
        .refine bT ?_ ?_ ?_
         .refine CW.ct ?_;refine qe ?_ ?_
          .exact bw Hf (Zd 2) n8
          .exact tD (bw ((wR hu)) (d_ (id:="len") gJ T.gh gq (Zc (Zd 2) Ze)) (Zp7 T (a_ bf (Zd 0) Zj)))
         .exact Zm (bH n8)
         .exact cM
        .refine Zm ?_;exact bH (ju (T:="tuple") nu T.jE nA (Zc (Zu cP (qg ql (Zd 0) q_ (ph (Zd 1))) (Zd 2)) Ze))
theorem Vz:dg ["blocks","word","inner","full"] ["blocks","word"] (Zk Dl):=⟨rfl,rfl,rfl,by decide +kernel,rfl,by decide +kernel,by decide +kernel⟩
theorem Zlx(A:bC K mg "can_stand" Dl ["blocks","word"])(T:Txt K mg){dm:Y4}(dO:Hz K mg dm):aD P w K mg base 1 "can_stand" ["blocks","word"] CN:=
  aD.of (N:=["blocks","word","inner","full"]) (k:=0) A Vz λf cdv A outer s H E hr=>by
    have hu:=eE hr;unfold Vh;refine Zg ?_ ?_
    .exact Zw 2 Vz.nd (a_ bf (Zd 0) (jV jW Zj))
    .refine Zg ?_ ?_
     .refine Zw 3 ?_ ?_
      .exact Vz.nd
      .refine q9 ?_ ?_ ?_
       .exact(eY hu)
       .exact Zoh T (a_ bf (uT (C:=dm) (c:=[66,108,111,99,107]) (m:=[104,101,97,100]) dO.ok dO.Iz (Zd 2)) Zj) Zj
       .exact d_ (id:="len") gJ T.gh gq (Zc (uT (C:=dm) (c:=[66,108,111,99,107]) (m:=[108,105,115,116,115]) dO.ok dO.xN (Zd 2)) Ze)
     .refine Zg ?_ ?_
      .refine bT ?_ ?_ ?_
       .exact ZiB T (Zd 1)
       .exact Zm (bH (q9 T6 (d_ (id:="len") gJ T.gh gq (Zc (Zd 0) Ze)) (ZjN T)))
       .exact cM
      .refine Zg ?_ ?_
       .refine bT ?_ ?_ ?_
        .exact bw ((eY hu)) (Zd 1) bB
        .exact Zm (bH (yU (q9 ((eY hu)) (a_ bf (uT (C:=dm) (c:=[66,108,111,99,107]) (m:=[104,101,97,100]) dO.ok dO.Iz (Zd 2)) Zj) bB) (yS (ZuP (Zd 3)))))
        .exact cM
       .exact Zg (bT (bw ((eY hu)) (Zd 1) bB) (Zm (bH (Zd 3))) cM) (Zm (bH yR))
theorem VB:dg ["blocks","deed","inner","whole"] ["blocks","deed"] (Zk Dm):=⟨rfl,rfl,rfl,by decide +kernel,rfl,by decide +kernel,by decide +kernel⟩
theorem Zkq(A:bC K mg "place_deed" Dm ["blocks","deed"])(T:Txt K mg){dm:Y4}(dO:Hz K mg dm)(zR:zj P w K mg base 1 dm ["self","head"] zp):aD P w K mg base 3 "place_deed" ["blocks","deed"] uV:=
  aD.of (N:=["blocks","deed","inner","whole"]) (k:=2) A VB λf cdv A outer s H E hr=>by
    have hu:=eE hr;unfold zq;refine Zg ?_ ?_
    .exact Zw 2 VB.nd (a_ bf (Zd 0) (jV jW Zj))
    .refine Zm ?_;refine bT ?_ ?_ ?_
     .exact ZiB T (a_ bf (Zd 1) Zj)
     .exact Zm (gQ (jX (Zd 0) (Zc (ZxD (C:=dm) (c:=[66,108,111,99,107]) (k:=1) (ps:=["self","head"]) dO.ok zR dO.mg (hr.mono (by decide)) (Zc (Zd 1) Ze)) Ze)))
     .refine Zm ?_;refine bT ?_ ?_ ?_
      .exact bw ((eY hu)) (a_ bf (Zd 1) Zj) bB
      .exact Zm (gQ (jX (uT (C:=dm) (c:=[66,108,111,99,107]) (m:=[108,105,115,116,115]) dO.ok dO.xN (Zd 2)) (Zc (cG Ze) Ze)))
      .refine Zm ?_;refine bT ?_ ?_ ?_
       .exact bw ((eY hu)) (a_ bf (Zd 1) Zj) bB
       .refine Zg ?_ ?_
        .exact gQ (Mq (Zd 0))
        .refine Zg ?_ ?_
         .refine Zw 3 ?_ ?_
          .exact VB.nd
          .refine Zu ?_ ?_ ?_
           .exact cP
           .exact uT (C:=dm) (c:=[66,108,111,99,107]) (m:=[104,101,97,100]) dO.ok dO.Iz (Zd 2)
           .refine ju (T:="tuple") ?_ ?_ ?_ ?_
            .exact nu
            .exact T.jE
            .exact nA
            .refine Zc ?_ ?_
             .refine pA (N':=["blocks","deed","inner","whole","deeds"]) ?_ ?_ ?_ ?_ (λC cl s H ex=>⟨?_,?_,?_⟩)
              .exact lH rfl (by kernel_rfl)
              .exact rfl
              .exact rfl
              .exact jw (uT (C:=dm) (c:=[66,108,111,99,107]) (m:=[108,105,115,116,115]) dO.ok dO.xN (Zd 2))
              .exact iJ 4 ((show jm (["blocks","deed","inner","whole","deeds"]:List aj)by decide +kernel))
              .exact mj
              .exact ju (T:="tuple") nu T.jE nA (Zc (Zd 4) Ze)
             .exact Ze
         .refine Zm ?_;refine gQ ?_;refine jX ?_ ?_
          .exact a_ bf (uT (C:=dm) (c:=[66,108,111,99,107]) (m:=[108,105,115,116,115]) dO.ok dO.xN (a_ bf (Zd 0) (jV jW Zj))) (jV jW Zj)
          .exact Zc (Zd 3) Ze
       .exact Zm (gQ (jX (a_ bf (uT (C:=dm) (c:=[66,108,111,99,107]) (m:=[108,105,115,116,115]) dO.ok dO.xN (Zd 2)) (jV jW Zj)) (Zc (Zd 1) Ze)))
theorem HB:dg ["rows","behind","blocks","number","words","deed"] ["rows","behind"] (Zk Di):=⟨rfl,rfl,rfl,by decide +kernel,rfl,by decide +kernel,by decide +kernel⟩
theorem Zke(A:bC K mg "read_deeds" Di ["rows","behind"])(T:Txt K mg){dm:Y4}(dO:Hz K mg dm)(zR:zj P w K mg base 1 dm ["self","head"] zp)(OJ:aD P w K mg base 66 "read_deed" ["words"] Hv)(O1:aD P w K mg base 1 "can_stand" ["blocks","word"] CN)(Oo:aD P w K mg base 3 "place_deed" ["blocks","deed"] uV):aD P w K mg base 67 "read_deeds" ["rows","behind"] MJ:=
  aD.of (N:=["rows","behind","blocks","number","words","deed"]) (k:=66) A HB λf cdv A outer s H E hr=>by
    have hu:=eE hr;unfold Vi;refine Zg ?_ ?_
    .exact Zw 2 HB.nd (cG (Zc (ZxD (C:=dm) (c:=[66,108,111,99,107]) (k:=1) (ps:=["self","head"]) dO.ok zR dO.mg (hr.mono (by decide)) (Zc (gH (Zc bB Ze)) Ze)) Ze))
    .refine Zg ?_ ?_
     .refine tE ?_ ?_ ?_ ?_ ?_
      .exact rfl
      .exact rfl
      .exact jw (Zd 0)
      .exact Lq rfl (l_ 3 HB.nd (l_ 4 HB.nd yV))
      .refine Zg ?_ ?_
       .exact Zw 5 HB.nd (bO (k:=66) (ps:=["words"]) OJ (hr.mono (by decide)) (Zc (Zd 4) Ze))
       .refine Zg ?_ ?_
        .refine bT ?_ ?_ ?_
         .refine CW.ct ?_;refine qe ?_ ?_
          .exact bw Hf (Zd 5) n8
          .exact tD (uQ (lZ (bO (k:=1) (ps:=["blocks","word"]) O1 (hr.mono (by decide)) (Zc (Zd 2) (Zc (a_ bf (Zd 5) Zj) Ze)))))
         .exact Zm Lp
         .exact cM
        .exact Zm (gQ (bO (k:=3) (ps:=["blocks","deed"]) Oo (hr.mono (by decide)) (Zc (Zd 2) (Zc (Zd 5) Ze))))
     .refine Zg ?_ ?_
      .exact bT (bw qi (d_ (id:="len") gJ T.gh gq (Zc (Zd 2) Ze)) Zj) (Zm Lp) cM
      .refine Zm ?_;refine bH ?_;exact ju (T:="tuple") nu T.jE nA (Zc (a_ bf (uT (C:=dm) (c:=[66,108,111,99,107]) (m:=[108,105,115,116,115]) dO.ok dO.xN (a_ bf (Zd 2) Zj)) Zj) Ze)
theorem D_:dg ["text","lines","rows","taken"] ["text"] (Zk Df):=⟨rfl,rfl,rfl,by decide +kernel,rfl,by decide +kernel,by decide +kernel⟩
theorem ZsT(A:bC K mg "read" Df ["text"])(T:Txt K mg)(Oq:aD P w K mg base 2 "read_taken" ["row"] Mz)(Ot:aD P w K mg base 67 "read_deeds" ["rows","behind"] MJ):aD P w K mg base 68 "read" ["text"] Hw:=
  aD.of (N:=["text","lines","rows","taken"]) (k:=67) A D_ λf cdv A outer s H E hr=>by
    have hu:=eE hr;unfold MK;refine Zg ?_ ?_
    .exact Zw 1 D_.nd (UG (Zd 0) (Zc bB Ze))
    .refine Zg ?_ ?_
     .refine Zk2 (N':=["text","lines","rows","taken","number","line"]) 2 ?_ ?_ ?_ ?_ ?_ (λC cl s H ex=>⟨?_,?_,?_⟩)
      .exact lH rfl (by kernel_rfl)
      .exact rfl
      .exact rfl
      .exact D_.nd
      .exact ZqI T.Oz (Zd 1)
      .exact Lq rfl (l_ 4 ((show jm (["text","lines","rows","taken","number","line"]:List aj)by decide +kernel)) (l_ 5 ((show jm (["text","lines","rows","taken","number","line"]:List aj)by decide +kernel)) yV))
      .exact ZtF (bw ((wR hu)) (Zd 5) bB)
      .exact gH (Zc (Zd 4) (Zc (UG (Zd 5) (Zc bB Ze)) Ze))
     .refine Zg ?_ ?_
      .exact Zw 3 D_.nd (gH Ze)
      .refine Zg ?_ ?_
       .refine bT ?_ ?_ ?_
        .refine CW.ct ?_;refine n_ ?_ ?_
         .exact bw qi (d_ (id:="len") gJ T.gh gq (Zc (Zd 2) Ze)) Zj
         .exact uP (bw ((eY hu)) (a_ bf (a_ bf (a_ bf (Zd 2) Zj) Zj) Zj) bB)
        .refine Zg ?_ ?_
         .exact Zw 3 D_.nd (bO (k:=2) (ps:=["row"]) Oq (hr.mono (by decide)) (Zc (a_ bf (Zd 2) Zj) Ze))
         .exact Zm (Zw 2 D_.nd (qg ql (Zd 2) (ph Zj) q_))
        .exact cM
       .refine Zm ?_;refine bH ?_;refine gH ?_;refine Zc ?_ ?_
        .exact Zd 3
        .refine Zc ?_ ?_
         .refine bO (k:=67) (ps:=["rows","behind"]) ?_ ?_ ?_
          .exact Ot
          .exact hr.mono (by decide)
          .exact Zc (Zd 2) (Zc (Zu cP (d_ (id:="len") gJ T.gh gq (Zc (Zd 1) Ze)) Zj) Ze)
         .exact Ze
theorem M_:dg ["deed","first","second"] ["deed"] (Zk Ds):=⟨rfl,rfl,rfl,by decide +kernel,rfl,by decide +kernel,by decide +kernel⟩
theorem Nb:dg ["deeds","rows","deed"] ["deeds"] (Zk Dq):=⟨rfl,rfl,rfl,by decide +kernel,rfl,by decide +kernel,by decide +kernel⟩
theorem Zfk(Xn:bC K mg "text_rows_of_deeds" Dq ["deeds"])(Xo:bC K mg "text_rows_of_deed" Ds ["deed"])(T:Txt K mg):∀n:Nat,aD P w K mg base (n+1) "text_rows_of_deeds" ["deeds"] (Zy n 0)/\aD P w K mg base (n+1) "text_rows_of_deed" ["deed"] (Zy n 1):=by
  intro n
  induction n with
  |zero=>exact⟨aD.of (N:=["deeds","rows","deed"]) (k:=0) Xn Nb λf cdv A outer s H E hr=>Mi,aD.of (N:=["deed","first","second"]) (k:=0) Xo M_ λf cdv A outer s H E hr=>Mi⟩
  | succ n IH=>
    obtain⟨Oi,Aaa⟩:=IH;refine⟨?_,?_⟩
    · refine(aD.of (N:=["deeds","rows","deed"]) (k:=n+1) Xn Nb λf cdv A outer s H E hr=>?_).mono (by omega)
      have hu:=eE hr;unfold ZdY;refine Zg ?_ ?_
      .exact Zw 1 Nb.nd (cG Ze)
      .refine Zg ?_ ?_
       .refine tE ?_ ?_ ?_ ?_ ?_
        .exact rfl
        .exact rfl
        .exact jw (Zd 0)
        .exact iJ 2 Nb.nd
        .exact Zm (gQ (U0 (Zd 1) (Zc (bO (k:=n+1) (ps:=["deed"]) Aaa hr (Zc (Zd 2) Ze)) Ze)))
       .exact Zm (bH (Zd 1))
    · refine(aD.of (N:=["deed","first","second"]) (k:=n+1) Xo M_ λf cdv A outer s H E hr=>?_).mono (by omega)
      have hu:=eE hr;unfold oF;refine Zg ?_ ?_
      .refine bT ?_ ?_ ?_
       .exact bw ((eY hu)) (a_ bf (Zd 0) Zj) bB
       .refine Zg ?_ ?_
        .exact Zw 1 M_.nd (bO (k:=n+1) (ps:=["deeds"]) Oi hr (Zc (a_ bf (Zd 0) Zj) Ze))
        .refine Zg ?_ ?_
         .exact Zw 2 M_.nd (bO (k:=n+1) (ps:=["deeds"]) Oi hr (Zc (a_ bf (Zd 0) Zj) Ze))
         .refine Zm ?_;refine bH ?_;refine Zu ?_ ?_ ?_
          .exact cP
          .refine Zu ?_ ?_ ?_
           .exact cP
           .refine Zu ?_ ?_ ?_
            .exact cP
            .exact Zu cP (cG (Zc (Zu cP (gH (Zc bB Ze)) (a_ bf (Zd 0) Zj)) Ze)) (Zd 1)
            .exact cG (Zc (gH (Zc bB Ze)) Ze)
           .exact Zd 2
          .exact cG (Zc (gH (Zc bB Ze)) Ze)
       .exact cM
      .refine Zg ?_ ?_
       .refine bT ?_ ?_ ?_
        .exact bw ((eY hu)) (a_ bf (Zd 0) Zj) bB
        .refine Zm ?_;refine bH ?_;refine Zu ?_ ?_ ?_
         .exact cP
         .refine Zu ?_ ?_ ?_
          .exact cP
          .exact cG (Zc (Zu cP (gH (Zc bB Ze)) (a_ bf (Zd 0) Zj)) Ze)
          .exact bO (k:=n+1) (ps:=["deeds"]) Oi hr (Zc (a_ bf (Zd 0) Zj) Ze)
         .exact cG (Zc (gH (Zc bB Ze)) Ze)
        .exact cM
       .refine Zg ?_ ?_
        .refine bT ?_ ?_ ?_
         .exact bw ((eY hu)) (a_ bf (Zd 0) Zj) bB
         .refine Zm ?_;refine bH ?_;refine cG ?_;refine Zc ?_ ?_
          .exact Zu cP (Zu cP (gH (Zc bB Ze)) (a_ bf (Zd 0) Zj)) (a_ bf (Zd 0) Zj)
          .exact Ze
         .exact cM
        .refine Zm ?_;refine bH ?_;refine cG ?_;refine Zc ?_ ?_
         .exact Zu cP (qg ql (Zd 0) q_ (ph (jV jW Zj))) (a_ bf (Zd 0) (jV jW Zj))
         .exact Ze
theorem Zhy:dg ["program","rows"] ["program"] (Zk Dp):=⟨rfl,rfl,rfl,by decide +kernel,rfl,by decide +kernel,by decide +kernel⟩
theorem ZlS(A:bC K mg "text_rows" Dp ["program"])(T:Txt K mg)(Oj:aD P w K mg base 29 "text_rows_of_deeds" ["deeds"] MN):aD P w K mg base 30 "text_rows" ["program"] oG:=
  aD.of (N:=["program","rows"]) (k:=29) A Zhy λf cdv A outer s H E hr=>by
    have hu:=eE hr;unfold Vj;refine Zg ?_ ?_
    .refine Zw 1 ?_ ?_
     .exact Zhy.nd
     .refine Cg ?_ ?_ ?_
      .exact bw qi (d_ (id:="len") gJ T.gh gq (Zc (a_ bf (Zd 0) Zj) Ze)) Zj
      .exact cG (Zc (Zu cP (gH (Zc bB Ze)) (a_ bf (Zd 0) Zj)) Ze)
      .exact cG Ze
    .exact Zm (bH (Zu cP (Zd 1) (bO (k:=29) (ps:=["deeds"]) Oj (hr.mono (by decide)) (Zc (a_ bf (Zd 0) Zj) Ze))))
theorem Zsr:dg ["program"] ["program"] (Zk Dn):=⟨rfl,rfl,rfl,by decide +kernel,rfl,by decide +kernel,by decide +kernel⟩
theorem ZqK(A:bC K mg "shown" Dn ["program"])(T:Txt K mg)(O2:aD P w K mg base 1 "shown_row" ["row"] Ht)(zU:aD P w K mg base 30 "text_rows" ["program"] oG):aD P w K mg base 31 "shown" ["program"] wX:=
  aD.of (N:=["program"]) (k:=30) A Zsr λf cdv A outer s H E hr=>by
    have hu:=eE hr;unfold Vk;refine Zm ?_;refine bH ?_;refine Mm ?_ ?_
    .exact bB
    .refine Zc ?_ ?_
     .refine pA (N':=["program","row"]) ?_ ?_ ?_ ?_ (λC cl s H ex=>⟨?_,?_,?_⟩)
      .exact lH rfl (by kernel_rfl)
      .exact rfl
      .exact rfl
      .exact jw (bO (k:=30) (ps:=["program"]) zU (hr.mono (by decide)) (Zc (Zd 0) Ze))
      .exact iJ 1 ((show jm (["program","row"]:List aj)by decide +kernel))
      .exact mj
      .exact bO (k:=1) (ps:=["row"]) O2 (hr.mono (by decide)) (Zc (Zd 1) Ze)
     .exact Ze
theorem Nf:dg ["program","names","row","word"] ["program"] (Zk Dt):=⟨rfl,rfl,rfl,by decide +kernel,rfl,by decide +kernel,by decide +kernel⟩
theorem Zmo(A:bC K mg "names_of" Dt ["program"])(T:Txt K mg)(zU:aD P w K mg base 30 "text_rows" ["program"] oG):aD P w K mg base 31 "names_of" ["program"] zr:=
  aD.of (N:=["program","names","row","word"]) (k:=30) A Nf λf cdv A outer s H E hr=>by
    have hu:=eE hr;unfold Vl;refine Zg ?_ ?_
    .exact Zw 1 Nf.nd (ju (T:="list") Zr7 T.IK ZoW (Zc (a_ bf (Zd 0) Zj) Ze))
    .refine Zg ?_ ?_
     .refine tE ?_ ?_ ?_ ?_ ?_
      .exact rfl
      .exact rfl
      .exact jw (bO (k:=30) (ps:=["program"]) zU (hr.mono (by decide)) (Zc (Zd 0) Ze))
      .exact iJ 2 Nf.nd
      .refine Zm ?_;refine tE ?_ ?_ ?_ ?_ ?_
       .exact rfl
       .exact rfl
       .exact jw (Zd 2)
       .exact iJ 3 Nf.nd
       .refine Zm ?_;refine bT ?_ ?_ ?_
        .refine CW.ct ?_;refine n_ ?_ ?_
         .exact uQ (lZ (rA .int T.oU T.Pj (Zd 3)))
         .exact n_ (bw ((ZtA hu)) (Zd 3) (Zms T)) (uP (bw Zni (Zd 3) (Zd 1)))
        .exact Zm (gQ (jX (Zd 1) (Zc (Zd 3) Ze)))
        .exact cM
     .exact Zm (bH (ju (T:="tuple") nu T.jE nA (Zc (Zd 1) Ze)))
theorem VD:dg ["deck","cells","at"] ["deck"] (Zk Du):=⟨rfl,rfl,rfl,by decide +kernel,rfl,by decide +kernel,by decide +kernel⟩
theorem Zlg(A:bC K mg "_law_next" Du ["deck"])(T:Txt K mg):aD P w K mg base 1 "_law_next" ["deck"] mz:=
  aD.of (N:=["deck","cells","at"]) (k:=0) A VD λf cdv A outer s H E hr=>by
    have hu:=eE hr;unfold CP;refine Zg ?_ ?_
    .exact Zw 1 VD.nd (a_ bf (Zd 0) Zj)
    .refine Zg ?_ ?_
     .exact Zw 2 VD.nd (a_ bf (Zd 0) Zj)
     .refine Zg ?_ ?_
      .exact Ux (Zd 0) Zj (Zu cP (Zd 2) Zj)
      .refine Zg ?_ ?_
       .refine bT ?_ ?_ ?_
        .exact bw wL (Zd 2) (d_ (id:="len") gJ T.gh gq (Zc (Zd 1) Ze))
        .exact Zm (bH (a_ bf (Zd 1) (Zd 2)))
        .exact cM
       .refine Zg ?_ ?_
        .refine bT ?_ ?_ ?_
         .exact bw ((eY hu)) (d_ (id:="len") gJ T.gh gq (Zc (Zd 1) Ze)) Zj
         .exact Zm (bH (Zu cP (Zu za (Zu za (Zd 2) (Zd 2)) Zj) (Zd 2)))
         .exact cM
        .refine Zm ?_;refine bH ?_;refine Zu ?_ ?_ ?_
         .exact cP
         .exact Zu jg (a_ bf (Zd 1) (Zu fJ (Zd 2) (d_ (id:="len") gJ T.gh gq (Zc (Zd 1) Ze)))) Zj
         .exact Zu za (Zd 2) (Zd 2)
theorem Zh7:dg ["found","due"] ["found","due"] (Zk Dv):=⟨rfl,rfl,rfl,by decide +kernel,rfl,by decide +kernel,by decide +kernel⟩
theorem Zll(A:bC K mg "_law_same" Dv ["found","due"])(T:Txt K mg):aD P w K mg base 32 "_law_same" ["found","due"] zu:=by
  have all:∀n:Nat,aD P w K mg base (n+1) "_law_same" ["found","due"] (qt n):=by
    intro n
    induction n with
    |zero=>exact aD.of (N:=["found","due"]) (k:=0) A Zh7 λf cdv A outer s H E hr=>Mi|succ n IH=>
      refine(aD.of (N:=["found","due"]) (k:=n+1) A Zh7 λf cdv A outer s H E hr=>?_).mono (by omega);have hu:=eE hr;unfold tH;refine Zg ?_ ?_
      .refine bT ?_ ?_ ?_
       .exact lZ (Zo5 .tuple .list T.oU T.jE T.IK (Zd 1))
       .refine Zg ?_ ?_
        .refine bT ?_ ?_ ?_
         .refine CW.ct ?_;refine qe ?_ ?_
          .exact bw ((wR hu)) (rA .tuple T.oU T.jE (Zd 0)) (rA .tuple T.oU T.jE (Zd 1))
          .exact tD (uQ (lZ (Zo5 .tuple .list T.oU T.jE T.IK (Zd 0))))
         .exact Zm (bH yR)
         .exact cM
        .refine Zm ?_;refine bH ?_;refine yU ?_ ?_
         .exact q9 ((eY hu)) (d_ (id:="len") gJ T.gh gq (Zc (Zd 0) Ze)) (d_ (id:="len") gJ T.gh gq (Zc (Zd 1) Ze))
         .refine yS ?_;refine d_ (id:="all") ?_ ?_ ?_ ?_
          .exact(Cq rfl)
          .exact T.zW
          .exact Cp
          .refine Zc ?_ ?_
           .refine pA (N':=["found","due","k"]) ?_ ?_ ?_ ?_ (λC cl s H ex=>⟨?_,?_,?_⟩)
            .exact lH rfl (by kernel_rfl)
            .exact rfl
            .exact rfl
            .exact Lr T.Iv (d_ (id:="len") gJ T.gh gq (Zc (Zd 1) Ze))
            .exact iJ 2 ((show jm (["found","due","k"]:List aj)by decide +kernel))
            .exact mj
            .exact bO (k:=n+1) (ps:=["found","due"]) IH hr (Zc (a_ bf (Zd 0) (Zd 2)) (Zc (a_ bf (Zd 1) (Zd 2)) Ze))
           .exact Ze
       .exact cM
      .refine Zg ?_ ?_
       .refine bT ?_ ?_ ?_
        .exact lZ (rA .str T.oU T.zX (Zd 1))
        .exact Zm (bH (yU (rA .str T.oU T.zX (Zd 0)) (yS (q9 ((eY hu)) (Zd 0) (Zd 1)))))
        .exact cM
       .refine Zg ?_ ?_
        .refine bT ?_ ?_ ?_
         .exact lZ (rA .bool T.oU T.Pb (Zd 1))
         .exact Zm (bH (yU (rA .bool T.oU T.Pb (Zd 0)) (yS (q9 ((eY hu)) (Zd 0) (Zd 1)))))
         .exact cM
        .refine Zm ?_;refine bH ?_;exact yU (rA .int T.oU T.Pj (Zd 0)) (yU (ZuP (rA .bool T.oU T.Pb (Zd 0))) (yS (q9 ((eY hu)) (Zd 0) (Zd 1))))
  exact all 31
theorem mC:dg ["deck","own","letters","cell","more","first","other","names","k","sign","name"] ["deck"] (Zk Dw):=⟨rfl,rfl,rfl,by decide +kernel,rfl,by decide +kernel,by decide +kernel⟩
theorem Zkm(A:bC K mg "_law_names" Dw ["deck"])(T:Txt K mg)(pH:aD P w K mg base 1 "_law_next" ["deck"] mz):aD P w K mg base 2 "_law_names" ["deck"] MP:=
  aD.of (N:=["deck","own","letters","cell","more","first","other","names","k","sign","name"]) (k:=1) A mC λf cdv A outer s H E hr=>by
    have hu:=eE hr;unfold Vm;refine Zg ?_ ?_
    .refine Zw 1 ?_ ?_
     .exact mC.nd
     .refine cG ?_;refine Zc ?_ ?_
      .exact bB
      .refine Zc ?_ ?_
       .exact bB
       .refine Zc ?_ ?_
        .exact bB
        .refine Zc ?_ ?_
         .exact bB
         .refine Zc ?_ ?_
          .exact bB
          .exact Zc bB (Zc bB (Zc bB (Zc bB (Zc bB (Zc bB (Zc bB Ze))))))
    .refine Zg ?_ ?_
     .exact Zw 2 mC.nd bB
     .refine Zg ?_ ?_
      .exact Zw 3 mC.nd (bO (k:=1) (ps:=["deck"]) pH (hr.mono (by decide)) (Zc (Zd 0) Ze))
      .refine Zg ?_ ?_
       .exact Zw 4 mC.nd (Zu jg (Zd 3) Zj)
       .refine Zg ?_ ?_
        .exact Zw 5 mC.nd (a_ bf (Zd 2) (Zu fJ (Zd 4) Zj))
        .refine Zg ?_ ?_
         .exact Zw 6 mC.nd (a_ bf (Zd 2) (Zu fJ (Zu jg (Zd 4) Zj) Zj))
         .refine Zg ?_ ?_
          .exact Zw 7 mC.nd (cG Ze)
          .refine Zg ?_ ?_
           .refine tE ?_ ?_ ?_ ?_ ?_
            .exact rfl
            .exact rfl
            .exact Lr T.Iv Zj
            .exact iJ 8 mC.nd
            .refine Zg ?_ ?_
             .exact Zw 9 mC.nd (a_ bf (Zd 2) (Zu fJ (Zu cP (Zd 4) (Zd 8)) Zj))
             .refine Zg ?_ ?_
              .exact Zw 10 mC.nd (Zu za (Zd 9) (Zu cP Zj (Zu fJ (Zu jg (Zd 4) Zj) Zj)))
              .refine Zg ?_ ?_
               .refine bT ?_ ?_ ?_
                .exact bw ((eY hu)) (Zu fJ (Zd 3) Zj) Zj
                .exact Zm (Zw 10 mC.nd (Zu cP (a_ bf (Zd 1) (Zu fJ (Zu cP (Zd 8) (Zd 4)) Zj)) (Zd 6)))
                .exact cM
               .refine Zg ?_ ?_
                .refine bT ?_ ?_ ?_
                 .exact bw ((eY hu)) (Zu fJ (Zd 3) Zj) Zj
                 .refine Zg ?_ ?_
                  .refine Zw 10 ?_ ?_
                   .exact mC.nd
                   .refine Zu ?_ ?_ ?_
                    .exact cP
                    .exact Zu za (Zd 5) (Zu cP Zj (Zu fJ (Zd 8) Zj))
                    .exact Zu za (a_ bf (Zd 2) (Zu fJ (Zu cP (Zd 4) Zj) Zj)) (Zu jg (Zd 8) Zj)
                  .exact Zm (Zw 10 mC.nd (qg ql (Zd 10) q_ (ph Zj)))
                 .exact cM
                .refine Zg ?_ ?_
                 .refine bT ?_ ?_ ?_
                  .exact bw ((eY hu)) (Zu fJ (Zd 3) Zj) Zj
                  .refine Zm ?_;refine Zw 10 ?_ ?_
                   .exact mC.nd
                   .refine Zu ?_ ?_ ?_
                    .exact cP
                    .exact Zu cP (Zd 6) (Zd 9)
                    .refine Zu ?_ ?_ ?_
                     .exact za
                     .exact a_ bf (Zd 2) (Zu fJ (Zu jg (Zd 4) Zj) Zj)
                     .exact Zu fJ (Zu jg (Zd 4) Zj) Zj
                  .exact cM
                 .refine Zg ?_ ?_
                  .exact bT (bw Zux (Zd 10) (Zd 1)) (Zm (Zw 10 mC.nd (Zu cP (Zd 10) bB))) cM
                  .exact Zm (gQ (jX (Zd 7) (Zc (Zd 10) Ze)))
           .exact Zm (bH (Zd 7))
theorem ZgV:dg ["cell","number"] ["cell"] (Zk Dy):=⟨rfl,rfl,rfl,by decide +kernel,rfl,by decide +kernel,by decide +kernel⟩
theorem Zks(A:bC K mg "_law_value" Dy ["cell"])(T:Txt K mg):aD P w K mg base 1 "_law_value" ["cell"] wY:=
  aD.of (N:=["cell","number"]) (k:=0) A ZgV λf cdv A outer s H E hr=>by
    have hu:=eE hr;unfold Vn;refine Zg ?_ ?_
    .exact Zw 1 ZgV.nd (Zu fJ (Zu jg (Zd 0) Zj) (Zu Zx1 Zj Zj))
    .refine Zm ?_;refine bH ?_;refine a_ ?_ ?_ ?_
     .exact bf
     .refine cG ?_;refine Zc ?_ ?_
      .exact Zu fJ (Zu jg (Zd 0) Zj) Zj
      .refine Zc ?_ ?_
       .exact Zu wK (jV jW Zj) (Zu fJ (Zu jg (Zd 0) Zj) Zj)
       .exact Zc (Zd 1) (Zc (Zu wK (jV jW Zj) (Zd 1)) Ze)
     .exact Zu fJ (Zd 0) Zj
theorem zA:dg ["deck","names","deep","most","words","due","d","cell","room","way"] ["deck","names","deep","most"] (Zk Dz):=⟨rfl,rfl,rfl,by decide +kernel,rfl,by decide +kernel,by decide +kernel⟩
theorem Znm(A:bC K mg "_law_sum" Dz ["deck","names","deep","most"])(T:Txt K mg)(pH:aD P w K mg base 1 "_law_next" ["deck"] mz)(Ou:aD P w K mg base 1 "_law_value" ["cell"] wY):aD P w K mg base 2 "_law_sum" ["deck","names","deep","most"] uW:=
  aD.of (N:=["deck","names","deep","most","words","due","d","cell","room","way"]) (k:=1) A zA λf cdv A outer s H E hr=>by
    have hu:=eE hr;unfold Vo;refine Zg ?_ ?_
    .exact Zw 4 zA.nd (cG Ze)
    .refine Zg ?_ ?_
     .exact Zw 5 zA.nd (cG (Zc (Zd 2) Ze))
     .refine Zg ?_ ?_
      .refine Zm1 ?_ ?_ ?_
       .exact rfl
       .exact bw ((wR hu)) (Zd 5) (cG Ze)
       .refine Zg ?_ ?_
        .exact Zw 6 zA.nd (Mq (Zd 5))
        .refine Zg ?_ ?_
         .exact Zw 7 zA.nd (bO (k:=1) (ps:=["deck"]) pH (hr.mono (by decide)) (Zc (Zd 0) Ze))
         .refine Zg ?_ ?_
          .refine Zw 8 ?_ ?_
           .exact zA.nd
           .refine Zu ?_ ?_ ?_
            .exact wK
            .refine Zu ?_ ?_ ?_
             .exact wK
             .exact Zu wK (Zd 3) (d_ (id:="len") gJ T.gh gq (Zc (Zd 4) Ze))
             .exact d_ (id:="len") gJ T.gh gq (Zc (Zd 5) Ze)
            .exact Zj
          .refine Zg ?_ ?_
           .exact Zw 9 zA.nd (Zu fJ (Zd 7) Zj)
           .refine Zm ?_;refine bT ?_ ?_ ?_
            .exact CW.ct (n_ (bw wL (Zd 9) Zj) (n_ (bw qi (Zd 6) Zj) (uP (bw qi (Zd 8) Zj))))
            .refine Zg ?_ ?_
             .exact gQ (jX (Zd 4) (Zc (a_ bf (cG (Zc bB (Zc bB (Zc bB Ze)))) (Zd 9)) Ze))
             .exact Zm (gQ (U0 (Zd 5) (Zc (cG (Zc (Zu wK (Zd 6) Zj) (Zc (Zd 6) Ze))) Ze)))
            .refine Zm ?_;refine bT ?_ ?_ ?_
             .exact CW.ct (n_ (bw ((eY hu)) (Zd 9) Zj) (uP (bw qi (Zd 8) Zj)))
             .exact Zg (gQ (jX (Zd 4) (Zc bB Ze))) (Zm (gQ (jX (Zd 5) (Zc (Zd 6) Ze))))
             .refine Zm ?_;refine bT ?_ ?_ ?_
              .exact bw wL (Zd 9) Zj
              .exact Zm (gQ (jX (Zd 4) (Zc (a_ bf (Zd 1) (Zu fJ (Zu jg (Zd 7) Zj) Zj)) Ze)))
              .exact Zm (gQ (jX (Zd 4) (Zc (bO (k:=1) (ps:=["cell"]) Ou (hr.mono (by decide)) (Zc (Zu jg (Zd 7) Zj) Ze)) Ze)))
      .exact Zm (bH (ju (T:="tuple") nu T.jE nA (Zc (Zd 4) Ze)))
theorem Ng:dg ["deck","names","cell","most","one"] ["deck","names","cell"] (Zk DG):=⟨rfl,rfl,rfl,by decide +kernel,rfl,by decide +kernel,by decide +kernel⟩
theorem Zl1(A:bC K mg "_law_deed" DG ["deck","names","cell"])(T:Txt K mg)(xK:aD P w K mg base 2 "_law_sum" ["deck","names","deep","most"] uW):aD P w K mg base 3 "_law_deed" ["deck","names","cell"] MT:=
  aD.of (N:=["deck","names","cell","most","one"]) (k:=2) A Ng λf cdv A outer s H E hr=>by
    have hu:=eE hr;unfold Vp;refine Zg ?_ ?_
    .refine Zw 3 ?_ ?_
     .exact Ng.nd
     .refine a_ ?_ ?_ ?_
      .exact bf
      .exact cG (Zc Zj (Zc Zj (Zc Zj (Zc Zj Ze))))
      .exact Zu fJ (Zu jg (Zd 2) Zj) Zj
    .refine Zg ?_ ?_
     .exact bT (bw ((eY hu)) (Zu fJ (Zu jg (Zd 2) Zj) Zj) Zj) (Zm (Zw 3 Ng.nd Zj)) cM
     .refine Zg ?_ ?_
      .refine Zw 4 ?_ ?_
       .exact Ng.nd
       .refine bO (k:=2) (ps:=["deck","names","deep","most"]) ?_ ?_ ?_
        .exact xK
        .exact hr.mono (by decide)
        .refine Zc ?_ ?_
         .exact Zd 0
         .exact Zc (Zd 1) (Zc (Zu cP Zj (Zu fJ (Zu jg (Zd 2) Zj) Zj)) (Zc (Zd 3) Ze))
      .refine Zg ?_ ?_
       .refine bT ?_ ?_ ?_
        .exact bw ((eY hu)) (Zu fJ (Zd 2) Zj) Zj
        .refine Zm ?_;refine bH ?_;refine gH ?_;exact Zc bB (Zc (a_ bf (Zd 1) (Zu fJ (Zu jg (Zd 2) Zj) Zj)) (Zc (Zd 4) Ze))
        .exact cM
       .refine Zg ?_ ?_
        .refine bT ?_ ?_ ?_
         .exact bw ((eY hu)) (Zu fJ (Zd 2) Zj) Zj
         .refine Zm ?_;refine bH ?_;refine gH ?_;refine Zc ?_ ?_
          .exact bB
          .refine Zc ?_ ?_
           .exact Zd 4
           .refine Zc ?_ ?_
            .refine bO (k:=2) (ps:=["deck","names","deep","most"]) ?_ ?_ ?_
             .exact xK
             .exact hr.mono (by decide)
             .refine Zc ?_ ?_
              .exact Zd 0
              .exact Zc (Zd 1) (Zc (Zu cP Zj (Zu fJ (Zu jg (Zd 2) Zj) Zj)) (Zc (Zd 3) Ze))
            .exact Ze
         .exact cM
        .exact Zm (bH (gH (Zc bB (Zc (Zd 4) Ze))))
theorem VF:dg ["deed","words","part"] ["deed"] (Zk DK):=⟨rfl,rfl,rfl,by decide +kernel,rfl,by decide +kernel,by decide +kernel⟩
theorem Zkd(A:bC K mg "_law_words" DK ["deed"])(T:Txt K mg):aD P w K mg base 1 "_law_words" ["deed"] Hx:=
  aD.of (N:=["deed","words","part"]) (k:=0) A VF λf cdv A outer s H E hr=>by
    have hu:=eE hr;unfold Vq;refine Zg ?_ ?_
    .exact Zw 1 VF.nd (cG (Zc (a_ bf (Zd 0) Zj) Ze))
    .refine Zg ?_ ?_
     .refine tE ?_ ?_ ?_ ?_ ?_
      .exact rfl
      .exact rfl
      .exact jw (qg ql (Zd 0) (ph Zj) q_)
      .exact iJ 2 VF.nd
      .refine Zm ?_;refine bT ?_ ?_ ?_
       .exact lZ (rA .str T.oU T.zX (Zd 2))
       .exact Zm (gQ (jX (Zd 1) (Zc (Zd 2) Ze)))
       .refine Zm ?_;refine gQ ?_;refine U0 ?_ ?_
        .exact Zd 1
        .refine Zc ?_ ?_
         .exact pA (N':=["deed","words","part","word"]) (lH rfl (by kernel_rfl)) rfl rfl (jw (Zd 2)) (λC cl s H ex=>⟨(iJ 3 ((show jm (["deed","words","part","word"]:List aj)by decide +kernel))),mj,(ju (T:="str") ZuQ T.zX Zry (Zc (Zd 3) Ze))⟩)
         .exact Ze
     .exact Zm (bH (Mm bB (Zc (Zd 1) Ze)))
theorem zB:dg ["stack","deeds","word","what","outer","ahead","deed"] ["stack","deeds"] (Zk DN):=⟨rfl,rfl,rfl,by decide +kernel,rfl,by decide +kernel,by decide +kernel⟩
theorem Zj3(A:bC K mg "_law_closed" DN ["stack","deeds"])(T:Txt K mg):aD P w K mg base 1 "_law_closed" ["stack","deeds"] wZ:=
  aD.of (N:=["stack","deeds","word","what","outer","ahead","deed"]) (k:=0) A zB λf cdv A outer s H E hr=>by
    have hu:=eE hr;unfold Vr;refine Zg ?_ ?_
    .refine UW ?_ ?_ ?_
     .exact rfl
     .exact a_ bf (Zd 0) (jV jW Zj)
     .exact l_ 2 zB.nd (l_ 3 zB.nd (l_ 4 zB.nd (l_ 5 zB.nd yV)))
    .refine Zg ?_ ?_
     .exact Zw 6 zB.nd (gH (Zc (Zd 2) (Zc (Zd 3) (Zc (ju (T:="tuple") nu T.jE nA (Zc (Zd 1) Ze)) Ze))))
     .refine Zg ?_ ?_
      .refine bT ?_ ?_ ?_
       .exact bw ((eY hu)) (Zd 2) bB
       .refine Zm ?_;refine Zw 6 ?_ ?_
        .exact zB.nd
        .exact gH (Zc (Zd 2) (Zc (Zd 3) (Zc (Zd 5) (Zc (ju (T:="tuple") nu T.jE nA (Zc (Zd 1) Ze)) Ze))))
       .exact cM
      .exact Zm (bH (Zu cP (Zd 4) (cG (Zc (Zd 6) Ze))))
theorem zE:dg ["deck","names","stack","deeds","cell","way","what","word","deed"] ["deck","names","stack","deeds"] (Zk DP):=⟨rfl,rfl,rfl,by decide +kernel,rfl,by decide +kernel,by decide +kernel⟩
theorem Zm2(A:bC K mg "_law_row" DP ["deck","names","stack","deeds"])(T:Txt K mg)(pH:aD P w K mg base 1 "_law_next" ["deck"] mz)(xK:aD P w K mg base 2 "_law_sum" ["deck","names","deep","most"] uW)(O4:aD P w K mg base 3 "_law_deed" ["deck","names","cell"] MT)(Io:aD P w K mg base 1 "_law_words" ["deed"] Hx)(zT:aD P w K mg base 1 "_law_closed" ["stack","deeds"] wZ):aD P w K mg base 4 "_law_row" ["deck","names","stack","deeds"] zy:=
  aD.of (N:=["deck","names","stack","deeds","cell","way","what","word","deed"]) (k:=3) A zE λf cdv A outer s H E hr=>by
    have hu:=eE hr;unfold zx;refine Zg ?_ ?_
    .exact Zw 4 zE.nd (bO (k:=1) (ps:=["deck"]) pH (hr.mono (by decide)) (Zc (Zd 0) Ze))
    .refine Zg ?_ ?_
     .exact Zw 5 zE.nd (Zu fJ (Zd 4) Zj)
     .refine Zg ?_ ?_
      .refine bT ?_ ?_ ?_
       .refine CW.ct ?_;refine n_ ?_ ?_
        .exact bw ((eY hu)) (Zd 5) Zj
        .refine n_ ?_ ?_
         .exact bw ((U_ hu)) (Zd 2) (cG Ze)
         .refine n_ ?_ ?_
          .exact bw ((eY hu)) (a_ bf (a_ bf (Zd 2) (jV jW Zj)) Zj) bB
          .exact uP (bw Hf (a_ bf (a_ bf (Zd 2) (jV jW Zj)) Zj) n8)
       .refine Zg ?_ ?_
        .exact Ux (a_ bf (Zd 2) (jV jW Zj)) Zj (ju (T:="tuple") nu T.jE nA (Zc (Zd 3) Ze))
        .exact Zm (bH (cG (Zc bB (Zc (cG Ze) Ze))))
       .exact cM
      .refine Zg ?_ ?_
       .refine bT ?_ ?_ ?_
        .refine CW.ct ?_;refine n_ ?_ ?_
         .exact bw qi (Zd 5) Zj
         .refine n_ ?_ ?_
          .exact bw ((U_ hu)) (Zd 2) (cG Ze)
          .refine uP ?_;refine CW.ct ?_;refine qe ?_ ?_
           .exact bw ((eY hu)) (a_ bf (a_ bf (Zd 2) (jV jW Zj)) Zj) bB
           .exact tD (bw Zuc (a_ bf (a_ bf (Zd 2) (jV jW Zj)) Zj) n8)
        .refine Zg ?_ ?_
         .exact Zw 3 zE.nd (bO (k:=1) (ps:=["stack","deeds"]) zT (hr.mono (by decide)) (Zc (Zd 2) (Zc (Zd 3) Ze)))
         .exact Zg (gQ (Mq (Zd 2))) (Zm (bH (cG (Zc bB (Zc (Zd 3) Ze)))))
        .exact cM
       .refine Zg ?_ ?_
        .refine bT ?_ ?_ ?_
         .refine CW.ct ?_;refine n_ ?_ ?_
          .exact Zr0 T6 wL Zj (Zd 5) Zj
          .exact uP (bw wL (d_ (id:="len") gJ T.gh gq (Zc (Zd 2) Ze)) Zj)
         .refine Zg ?_ ?_
          .refine Zw 6 ?_ ?_
           .exact zE.nd
           .refine bO (k:=2) (ps:=["deck","names","deep","most"]) ?_ ?_ ?_
            .exact xK
            .exact hr.mono (by decide)
            .refine Zc ?_ ?_
             .exact Zd 0
             .refine Zc ?_ ?_
              .exact Zd 1
              .refine Zc ?_ ?_
               .exact Zu cP Zj (Zu fJ (Zu jg (Zd 4) Zj) Zj)
               .exact Zc (Zu cP Zj (Zu fJ (Zu jg (Zd 4) Zj) Zj)) Ze
          .refine Zg ?_ ?_
           .exact Zw 7 zE.nd (a_ bf (cG (Zc bB (Zc bB (Zc bB Ze)))) (Zu wK (Zd 5) Zj))
           .refine Zg ?_ ?_
            .exact gQ (jX (Zd 2) (Zc (cG (Zc (Zd 7) (Zc (Zd 6) (Zc (Zd 3) (Zc n8 Ze))))) Ze))
            .refine Zm ?_;refine bH ?_;refine cG ?_;exact Zc (bO (k:=1) (ps:=["deed"]) Io (hr.mono (by decide)) (Zc (gH (Zc (Zd 7) (Zc (Zd 6) Ze))) Ze)) (Zc (cG Ze) Ze)
         .exact cM
        .refine Zg ?_ ?_
         .exact Zw 8 zE.nd (bO (k:=3) (ps:=["deck","names","cell"]) O4 (hr.mono (by decide)) (Zc (Zd 0) (Zc (Zd 1) (Zc (Zu jg (Zd 4) Zj) Ze))))
         .refine Zm ?_;refine bH ?_;refine cG ?_;exact Zc (bO (k:=1) (ps:=["deed"]) Io (hr.mono (by decide)) (Zc (Zd 8) Ze)) (Zc (Zu cP (Zd 3) (cG (Zc (Zd 8) Ze))) Ze)
theorem oH:dg ["deck","names","many","most","rows","stack","deeds","used","k","kept","row","behind"] ["deck","names","many","most"] (Zk DQ):=⟨rfl,rfl,rfl,by decide +kernel,rfl,by decide +kernel,by decide +kernel⟩
theorem ZiW(A:bC K mg "_law_program" DQ ["deck","names","many","most"])(T:Txt K mg)(zT:aD P w K mg base 1 "_law_closed" ["stack","deeds"] wZ)(O6:aD P w K mg base 4 "_law_row" ["deck","names","stack","deeds"] zy):aD P w K mg base 5 "_law_program" ["deck","names","many","most"] M7:=
  aD.of (N:=["deck","names","many","most","rows","stack","deeds","used","k","kept","row","behind"]) (k:=4) A oH λf cdv A outer s H E hr=>by
    have hu:=eE hr;unfold Vs;refine Zg ?_ ?_
    .exact Zw 4 oH.nd (cG Ze)
    .refine Zg ?_ ?_
     .exact Zw 5 oH.nd (cG Ze)
     .refine Zg ?_ ?_
      .exact Zw 6 oH.nd (cG Ze)
      .refine Zg ?_ ?_
       .exact Zw 7 oH.nd Zj
       .refine Zg ?_ ?_
        .refine tE ?_ ?_ ?_ ?_ ?_
         .exact rfl
         .exact rfl
         .exact Lr T.Iv (Zd 2)
         .exact iJ 8 oH.nd
         .refine Zg ?_ ?_
          .refine ZqM (N':=["deck","names","many","most","rows","stack","deeds","used","k","kept","row","behind","block"]) 9 ?_ ?_ ?_ ?_ ?_ (λC cl s H ex=>⟨?_,?_,?_⟩)
           .exact lH rfl (by kernel_rfl)
           .exact rfl
           .exact rfl
           .exact oH.nd
           .exact jw (Zd 5)
           .exact iJ 12 ((show jm (["deck","names","many","most","rows","stack","deeds","used","k","kept","row","behind","block"]:List aj)by decide +kernel))
           .exact mj
           .exact ju (T:="list") Zr7 T.IK ZoW (Zc (Zd 12) Ze)
          .refine Zg ?_ ?_
           .refine UW ?_ ?_ ?_
            .exact rfl
            .exact bO (k:=4) (ps:=["deck","names","stack","deeds"]) O6 (hr.mono (by decide)) (Zc (Zd 0) (Zc (Zd 1) (Zc (Zd 5) (Zc (Zd 6) Ze))))
            .exact l_ 10 oH.nd (l_ 11 oH.nd yV)
           .refine Zg ?_ ?_
            .refine bT ?_ ?_ ?_
             .exact bw qi (Zu cP (Zd 7) (d_ (id:="len") gJ T.gh gq (Zc (Zd 10) Ze))) (Zd 3)
             .exact Zg (Zw 5 oH.nd (Zd 9)) (Zm Zrb)
             .exact cM
            .refine Zg ?_ ?_
             .exact Zw 6 oH.nd (Zd 11)
             .refine Zg ?_ ?_
              .exact Zw 7 oH.nd (Zu cP (Zu cP (Zd 7) (d_ (id:="len") gJ T.gh gq (Zc (Zd 10) Ze))) Zj)
              .exact Zm (gQ (jX (Zd 4) (Zc (Zd 10) Ze)))
        .refine Zg ?_ ?_
         .refine Zm1 ?_ ?_ ?_
          .exact rfl
          .exact bw ((U_ hu)) (Zd 5) (cG Ze)
          .refine Zg ?_ ?_
           .refine bT ?_ ?_ ?_
            .refine CW.ct ?_;refine n_ ?_ ?_
             .exact bw ((eY hu)) (a_ bf (a_ bf (Zd 5) (jV jW Zj)) Zj) bB
             .exact uP (bw Hf (a_ bf (a_ bf (Zd 5) (jV jW Zj)) Zj) n8)
            .refine Zg ?_ ?_
             .exact Ux (a_ bf (Zd 5) (jV jW Zj)) Zj (ju (T:="tuple") nu T.jE nA (Zc (Zd 6) Ze))
             .exact Zg (Zw 6 oH.nd (cG Ze)) (Zm (gQ (jX (Zd 4) (Zc bB Ze))))
            .exact cM
           .refine Zg ?_ ?_
            .exact Zw 6 oH.nd (bO (k:=1) (ps:=["stack","deeds"]) zT (hr.mono (by decide)) (Zc (Zd 5) (Zc (Zd 6) Ze)))
            .exact Zg (gQ (Mq (Zd 5))) (Zm (gQ (jX (Zd 4) (Zc bB Ze))))
         .exact Zm (bH (cG (Zc (Zd 4) (Zc (ju (T:="tuple") nu T.jE nA (Zc (Zd 6) Ze)) Ze))))
theorem ZgS:dg ["deck","names","cell"] ["deck","names"] (Zk DR):=⟨rfl,rfl,rfl,by decide +kernel,rfl,by decide +kernel,by decide +kernel⟩
theorem Zkv(A:bC K mg "_law_taken" DR ["deck","names"])(T:Txt K mg)(pH:aD P w K mg base 1 "_law_next" ["deck"] mz):aD P w K mg base 2 "_law_taken" ["deck","names"] M8:=
  aD.of (N:=["deck","names","cell"]) (k:=1) A ZgS λf cdv A outer s H E hr=>by
    have hu:=eE hr;unfold Vt;refine Zg ?_ ?_
    .exact Zw 2 ZgS.nd (bO (k:=1) (ps:=["deck"]) pH (hr.mono (by decide)) (Zc (Zd 0) Ze))
    .refine Zm ?_;refine bH ?_;refine ju (T:="tuple") ?_ ?_ ?_ ?_
     .exact nu
     .exact T.jE
     .exact nA
     .refine Zc ?_ ?_
      .refine pA (N':=["deck","names","cell","k"]) ?_ ?_ ?_ ?_ (λC cl s H ex=>⟨?_,?_,?_⟩)
       .exact lH rfl (by kernel_rfl)
       .exact rfl
       .exact rfl
       .exact Lr T.Iv (Zu fJ (Zd 2) Zj)
       .exact iJ 3 ((show jm (["deck","names","cell","k"]:List aj)by decide +kernel))
       .exact mj
       .exact a_ bf (Zd 1) (Zu fJ (Zu cP (Zu jg (Zd 2) Zj) (Zd 3)) Zj)
      .exact Ze
theorem Nh:dg ["rows","names","found","row","word"] ["rows","names"] (Zk DW):=⟨rfl,rfl,rfl,by decide +kernel,rfl,by decide +kernel,by decide +kernel⟩
theorem Zkt(A:bC K mg "_law_named" DW ["rows","names"])(T:Txt K mg):aD P w K mg base 1 "_law_named" ["rows","names"] Hy:=
  aD.of (N:=["rows","names","found","row","word"]) (k:=0) A Nh λf cdv A outer s H E hr=>by
    have hu:=eE hr;unfold Vu;refine Zg ?_ ?_
    .exact Zw 2 Nh.nd (cG Ze)
    .refine Zg ?_ ?_
     .refine tE ?_ ?_ ?_ ?_ ?_
      .exact rfl
      .exact rfl
      .exact jw (Zd 0)
      .exact iJ 3 Nh.nd
      .refine Zm ?_;refine tE ?_ ?_ ?_ ?_ ?_
       .exact rfl
       .exact rfl
       .exact jw (UG (Zd 3) (Zc bB Ze))
       .exact iJ 4 Nh.nd
       .refine Zm ?_;refine bT ?_ ?_ ?_
        .exact CW.ct (n_ (bw Zux (Zd 4) (Zd 1)) (uP (bw Zni (Zd 4) (Zd 2))))
        .exact Zm (gQ (jX (Zd 2) (Zc (Zd 4) Ze)))
        .exact cM
     .exact Zm (bH (ju (T:="tuple") nu T.jE nA (Zc (Zd 2) Ze)))
theorem uY:dg ["script","deck","names","taken","rows","deeds","program","text"] ["script"] (Zk uX):=⟨rfl,rfl,rfl,by decide +kernel,rfl,by decide +kernel,by decide +kernel⟩
theorem Zvt{f:Y4}{fd:lU}(F:uG K "law" "law" uX f fd)(T:Txt K mg)(Pg:aD P w K mg base 68 "read" ["text"] Hw)(Er:aD P w K mg base 31 "shown" ["program"] wX)(Ir:aD P w K mg base 31 "names_of" ["program"] zr)(Eo:aD P w K mg base 32 "_law_same" ["found","due"] zu)(Ov:aD P w K mg base 2 "_law_names" ["deck"] MP)(Ol:aD P w K mg base 5 "_law_program" ["deck","names","many","most"] M7)(Ow:aD P w K mg base 2 "_law_taken" ["deck","names"] M8)(Ox:aD P w K mg base 1 "_law_named" ["rows","names"] Hy):jO P w K mg base mU 69 f fd ["script"] (uR K 1 Zpb):=
  T5 (N:=["script","deck","names","taken","rows","deeds","program","text"]) (k:=68) F uY λcdv A outer s H E hr=>by
    have hu:=eE hr;unfold Vv;refine Zg ?_ ?_
    .exact Zw 1 uY.nd (cG (Zc (qg ql (Zd 0) q_ (ph Zj)) (Zc Zj Ze)))
    .refine Zg ?_ ?_
     .exact Zw 2 uY.nd (bO (k:=2) (ps:=["deck"]) Ov (hr.mono (by decide)) (Zc (Zd 1) Ze))
     .refine Zg ?_ ?_
      .exact Zw 3 uY.nd (bO (k:=2) (ps:=["deck","names"]) Ow (hr.mono (by decide)) (Zc (Zd 1) (Zc (Zd 2) Ze)))
      .refine Zg ?_ ?_
       .refine UW ?_ ?_ ?_
        .exact rfl
        .refine bO (k:=5) (ps:=["deck","names","many","most"]) ?_ ?_ ?_
         .exact Ol
         .exact hr.mono (by decide)
         .refine Zc ?_ ?_
          .exact Zd 1
          .refine Zc ?_ ?_
           .exact Zd 2
           .exact Zc (d_ (id:="len") gJ T.gh gq (Zc (qg ql (Zd 0) q_ (ph Zj)) Ze)) (Zc Zj Ze)
        .exact l_ 4 uY.nd (l_ 5 uY.nd yV)
       .refine Zg ?_ ?_
        .refine bT ?_ ?_ ?_
         .exact bw ((wR hu)) (Zd 3) (gH Ze)
         .refine Zm ?_;refine Zw 4 ?_ ?_
          .exact uY.nd
          .refine Zu ?_ ?_ ?_
           .exact cP
           .exact cG (Zc (Zna bB (Zc (Zu cP (gH (Zc bB Ze)) (Zd 3)) Ze)) Ze)
           .exact Zd 4
         .exact cM
        .refine Zg ?_ ?_
         .exact Zw 6 uY.nd (gH (Zc (Zd 3) (Zc (Zd 5) Ze)))
         .refine Zg ?_ ?_
          .refine bT ?_ ?_ ?_
           .refine CW.ct ?_;refine qe ?_ ?_
            .exact bw ((wR hu)) (bO (k:=31) (ps:=["program"]) Er (hr.mono (by decide)) (Zc (gH (Zc (gH Ze) (Zc (gH Ze) Ze))) Ze)) bB
            .refine tD ?_;refine uQ ?_;refine lZ ?_;refine bO (k:=32) (ps:=["found","due"]) ?_ ?_ ?_
             .exact Eo
             .exact hr.mono (by decide)
             .refine Zc ?_ ?_
              .exact bO (k:=31) (ps:=["program"]) Ir (hr.mono (by decide)) (Zc (gH (Zc (gH Ze) (Zc (gH Ze) Ze))) Ze)
              .exact Zc (gH Ze) Ze
           .exact Zm (bH yR)
           .exact cM
          .refine Zg ?_ ?_
           .exact Zw 7 uY.nd (bO (k:=31) (ps:=["program"]) Er (hr.mono (by decide)) (Zc (Zd 6) Ze))
           .refine Zg ?_ ?_
            .refine bT ?_ ?_ ?_
             .refine CW.ct ?_;exact qe (uQ (lZ (rA .str T.oU T.zX (Zd 7)))) (tD (bw ((wR hu)) (Zd 7) (Mm bB (Zc (Zd 4) Ze))))
             .exact Zm (bH yR)
             .exact cM
            .refine Zg ?_ ?_
             .refine bT ?_ ?_ ?_
              .refine uQ ?_;refine lZ ?_;refine bO (k:=32) (ps:=["found","due"]) ?_ ?_ ?_
               .exact Eo
               .exact hr.mono (by decide)
               .refine Zc ?_ ?_
                .exact bO (k:=31) (ps:=["program"]) Ir (hr.mono (by decide)) (Zc (Zd 6) Ze)
                .exact Zc (bO (k:=1) (ps:=["rows","names"]) Ox (hr.mono (by decide)) (Zc (Zd 4) (Zc (Zd 2) Ze))) Ze
              .exact Zm (bH yR)
              .exact cM
             .refine Zm ?_;refine bH ?_;refine yU ?_ ?_
              .exact bO (k:=32) (ps:=["found","due"]) Eo (hr.mono (by decide)) (Zc (bO (k:=68) (ps:=["text"]) Pg (hr.mono (by decide)) (Zc (Zd 7) Ze)) (Zc (Zd 6) Ze))
              .exact yS (q9 ((eY hu)) (bO (k:=31) (ps:=["program"]) Er (hr.mono (by decide)) (Zc (Zd 6) Ze)) (Zd 7))
end
end _Law
set_option maxHeartbeats 200000
namespace _Law
open _L3
theorem Zv5(c:Nat):∀(x y a b:List Nat),c∉x->c∉y->x++c::a=y++c::b->x=y/\a=b:=by
 intro x
 induction x with
 |nil=>
  intro y a b _ hy h;cases y with
  |nil=>exact⟨rfl,(je h).2⟩|cons q y=>exact absurd (je h).1 λe=>hy (e▸Yc ..)
 | cons p x ih=>
  intro y a b hx hy h;cases y with
  |nil=>exact absurd (je h).1 λe=>hx (e▸Yc ..)|cons q y=>obtain⟨e1,e2⟩:=ih y a b (λz=>hx (Yd _ z)) (λz=>hy (Yd _ z)) (je h).2;exact⟨by rw[(je h).1,e1],e2⟩
theorem tK(s x y:List Nat)(r:List (List Nat)):glue s (x::y::r)=x++(s++glue s (y::r)):=by show x++s++glue s (y::r)=_;rw[gM]
theorem ZsD(c:Nat):∀(ts us:List (List Nat)),ts≠[]->us≠[]->(∀t∈ts,c∉t)->(∀t∈us,c∉t)->glue [c] ts=glue [c] us->ts=us:=by
 intro ts
 induction ts with
 |nil=>intro us h;exact absurd rfl h|cons t ts ih=>
  intro us _ hu ft fu h;cases us with
  |nil=>exact absurd rfl hu|cons u us=>
   have ht:=ft t (Yc ..);have hu':=fu u (Yc ..);cases ts with
   | nil=>
    cases us with
    |nil=>rw[show t=u from h]|cons v us=>rw[tK]at h;refine absurd (show c∈t from ?_) ht;rw[show t=_ from h];exact iQ _ (Yc ..)
   | cons w ts=>
    cases us with
    |nil=>rw[tK]at h;refine absurd (show c∈u from ?_) hu';rw[show u=_ from h.symm];exact iQ _ (Yc ..)|cons v us=>rw[tK,tK]at h;obtain⟨e1,e2⟩:=Zv5 c t u _ _ ht hu' h;rw[e1,ih (v::us) (λz=>nomatch z) (λz=>nomatch z) (λq hq=>ft q (Yd _ hq)) (λq hq=>fu q (Yd _ hq)) e2]
theorem Zjp(x:List Nat)(c:Nat):glue [c] (o_ x [c])=x:=by
 have h:=PySem.StrLaws.join_split (⟨x.toArray⟩:PySem.Str) (⟨([c]:List Nat).toArray⟩);have e:(Yl8 (⟨x.toArray⟩:PySem.Str) ⟨([c]:List Nat).toArray⟩)=(o_ x [c]).map λt=>(⟨t.toArray⟩:PySem.Str):=by unfold o_;rw[jH];exact(Qs _).symm.trans (Ae λt _=>rfl)
 rw[e,Ml]at h;have q:=congrArg (λs:PySem.Str=>s.cps.toList) h;simpa using q
theorem VG(c:Nat)(ts:List (List Nat))(h:ts≠[])(hf:∀t∈ts,c∉t):o_ (glue [c] ts) [c]=ts:=by
 have hs:∀t∈o_ (glue [c] ts) [c],c∉t:=by intro t ht;obtain⟨p,hp,rfl⟩:=dZ.mp ht;exact PySem.StrLaws.split_free _ c p hp
 refine ZsD c _ _ (λz=>?_) h hs hf (Zjp _ c);have q:=Zjp (glue [c] ts) c;unfold o_ at z;have z1:=Af.mp z;have z2:=PyProof.Rows.split_pos (⟨(glue [c] ts).toArray⟩:PySem.Str) ⟨([c]:List Nat).toArray⟩;rw[z1]at z2;exact absurd z2 (by decide)
noncomputable def cU(n:Nat):List Nat:=(JT 10 n).map RM
theorem ZmZ:∀d:Nat,d<10->(Nat.digitChar d).toNat=48+d:=by decide
variable{n:Nat}
theorem zF(h:n<10):cU n=[48+n]:=by unfold cU;rw[Yhl h,Ys,uc,ZmZ n h]
theorem HD(h:10<=n):cU n=cU (n / 10)++[48+n % 10]:=by have hm:n % 10<10:=FN n (by decide);have t:JT 10 (n / 10)++JT 10 (n % 10)=JT 10 (10*(n / 10)+n % 10):=Nat.toDigits_append_toDigits (by decide) (by omega) hm;rw[Nat.div_add_mod]at t;unfold cU;rw[←t,jl,Yhl hm,Ys,uc,ZmZ _ hm]
theorem w5(n:Nat):∀c∈cU n,48<=c/\c<=57:=by
 induction n using JS with
 | _ n ih=>
  by_cases h:n<10
  .rw[zF h];intro c hc;rw[Yy.mp hc];exact⟨jd _ _,lA 1 0x392b0302bc0a1b011 T1 h⟩
  .rw[HD (j8 h)];intro c hc;rcases fj.mp hc with hc|hc
   .exact ih (n / 10) (JR λz=>lB 3 0x6010ad01a1b0511002 T1 z h (Ay _ _)) c hc
   .rw[Yy.mp hc];exact⟨jd _ _,lA 1 0x392b0302bc0a1b011 T1 (FN _ (by decide))⟩
theorem HF(n:Nat):cU n≠[]:=by
 by_cases h:n<10
 .rw[zF h];exactλz=>nomatch z
 .rw[HD (j8 h)];exactλz=>absurd (Qg.mp z).2 (λz=>nomatch z)
theorem HJ(k:Nat):∀n:Nat,n<10^(k+1)->(cU n).length<=k+1:=by
 induction k with
 |zero=>intro n h;rw[zF (by simpa using h)];exact Yt _|succ k ih=>
  intro n h;by_cases q:n<10
  .rw[zF q];exact Ax 1 _
  .rw[HD (j8 q),Yf,jj];have:=ih (n / 10) (by rw[Nat.pow_succ]at h;omega);exact lB 1 0xaa1cca0c0a1c001 T1 this
theorem Zqn(n:Nat)(h:0<n):∀r,cU n≠48::r:=by
 induction n using JS with
 | _ n ih=>
  intro r z;by_cases q:n<10
  .rw[zF q]at z;have:=(je z).1;exact lA 2 0x60e11302b0302bc21 T1 this h
  .rw[HD (j8 q)]at z;cases e:cU (n / 10)with
   |nil=>exact HF _ e|cons c l=>rw[e]at z;have:=(je z).1;subst this;exact ih (n / 10) (JR λz=>lB 3 0x6010ad01a1b0511002 T1 z q (Ay _ _)) (by omega) l e
theorem Zmn(n:Nat):FQ (cU n)=n:=by
 induction n using JS with
 | _ n ih=>
  by_cases q:n<10
  .rw[zF q];show 0*10+(48+n-48)=n;exact Y1 (lB 1 0x10a1b00dc01302bc302b0c21 T1 (Y9 (jd _ _))) (lB 1 0x1a1b00dc00302b1c0302bc01 T1 (gO _ _))
  .rw[HD (j8 q)];have e:FQ (cU (n / 10)++[48+n % 10])=FQ (cU (n / 10))*10+(48+n % 10-48):=by
    unfold FQ;rw[Yes];rfl
   rw[e,ih (n / 10) (JR λz=>lB 3 0x6010ad01a1b0511002 T1 z q (Ay _ _))];omega
theorem Ni(n:Nat):gF (n:Int)=cU n:=by unfold gF cU;rw[Ygg];show(Nat.repr n).toList.map RM=_;rw[Ymh]
theorem Nj(n:Nat):gF (Int.negSucc n)=45::cU (n+1):=by unfold gF cU;rw[Ygg];show("-" ++Nat.repr (n+1)).toList.map RM=_;rw[String.toList_append,jl,Ymh];rfl
theorem VH(i:Int)(h:i.natAbs<10^60):Jz ⟨(gF i).toArray⟩=Ya i/\(gF i).length<=61/\∀c∈gF i,45<=c:=by
 cases i with
 |ofNat n=>have hl:=HJ 59 n h;have e:gF (Int.ofNat n)=cU n:=Ni n;rw[e];refine⟨?_,rZ hl,λc hc=>Yi (by decide) (w5 n c hc).1⟩;have q:=PySem.intText_digits (x:=⟨(cU n).toArray⟩) (w5 n) (HF n) (Yi (show(cU n).toArray.size<=60 by simpa using hl) (by decide));rw[q];show Ya ((FQ (cU n):Nat):Int)=_;rw[Zmn];rfl|negSucc n=>
  have hl:=HJ 59 (n+1) h;rw[Nj];refine⟨?_,pO hl,λc hc=>?_⟩
  .have q:=PySem.intText_neg (x:=⟨(45::cU (n+1)).toArray⟩) (cs:=cU (n+1)) rfl (w5 _) (HF _) (Yi (show(45::cU (n+1)).toArray.size<=61 by simpa using hl) (by decide));rw[q,Zmn];rfl
  .rcases Yo.mp hc with e|hc
   .exact j9 e.symm
   .exact Yi (by decide) (w5 _ c hc).1
variable{M M':Store}
theorem Zri{d:D}(h:M'.length=M.length):eV M d M'= .ok d M':=by unfold eV;rw[rT (j9 h)];split <;>rfl
theorem SJ(n d:Nat):aF n d Ym=d:=rfl
theorem Gq(n d k:Nat):aF n d (Ya (k:Int))=jN k n:=by have h:¬((k:Int)<0):=(λz=>iN [_] [] 1 7211153 T1 z);simp only[aF,if_neg h,su]
variable{α:Type}
theorem Ea(w:List α)(k:Nat):cutD w (Ya (k:Int)) Ym=w.drop k:=by
 unfold cutD;rw[Gq,SJ];by_cases h:k<=w.length
 .rw[Fy h,rT (by simp)]
 .rw[QX (by exact lB 1 1052737 T1 h),Jm (Yt _),Jm (by exact lB 1 1052737 T1 h)];simp
theorem Zrk(w:List α)(k:Nat):cutD w Ym (Ya (k:Int))=w.take k:=by
 unfold cutD;rw[Gq,SJ];by_cases h:k<=w.length
 .rw[Fy h];simp
 .rw[QX (by exact lB 1 1052737 T1 h),Nat.sub_zero,Js,rT (Yt _),rT (by exact lB 1 1052737 T1 h)]
theorem Zyq{i j:Int}(h:-(2^64)<i/\i<2^64):mW i j=true:=by unfold mW;rw[yh];left;simp only[Y6,decide_eq_true_eq];exact h
theorem mul_r{i j:Int}(h:-(2^64)<j/\j<2^64):mW i j=true:=by unfold mW;rw[yh];right;simp only[Y6,decide_eq_true_eq];exact h
theorem oJ(x:Int)(m:Nat)(h:0<m):∃a:Nat,x % (m:Int)=a/\a<m:=by have h1:=qK x (b:=(m:Int)) (by exactλz=>iN [_] [] 2 416093702305 T1 z h);have h2:=ur x (b:=(m:Int)) (by exact iN [_] [] 1 149491217 T1 h);exact⟨(x % (m:Int)).toNat,(nU h1).symm,by exact iN [_,_] [_] 2 18698308976785 T1 h2 (nU h1)⟩
theorem jx{i j:Int}(h:0<j/\j<1073741824):b8 (.int i) (.int j) M= .ok (.int (i / j)) M:=by simp only[Zk3,if_pos h]
variable{ds:List D}{env:bK}
theorem dz{g:eQ}(h:g env M= .ok ds M')(hl:decide (ds.length<=100)=true):aV g env M= .ok (.ref M'.length) (M'++[.lst ds]):=by have z:ds.length<=SZ:=Yi (of_decide_eq_true hl) (by decide);simp only[aV,h,R3.bind,if_pos z,alloc]
variable{xs:List D}
theorem VJ{d:D}{o t:E3}(ho:o env M= .ok (.ref n) M)(hM:M[n]?=Ya (.lst xs))(ht:t env M= .ok d M')(hM':M'[n]?=Ya (.lst xs))(hl:xs.length<SZ):
  aU (aG bj cu o (Zb t (Zf))) env M= .nx env (M'.set n (.lst (xs++[d]))):=by
 have e:aG bj cu o (Zb t (Zf)) env M= .ok .non (M'.set n (.lst (xs++[d]))):=by simp only[aG,ho,R3.bind,yN,hM,Zb,ht,Zf,Tu,hM',if_pos hl,if_true]
 rw[aU,e]
variable{f g:E3}
theorem Zx3{op:D->D->D->Store->R3 D}{h:E3}{M M1 M2 M3 M4:Store}{a b c d:D}(h1:f env M= .ok a M1)(h2:g env M1= .ok b M2)(h3:h env M2= .ok c M3)(h4:op a b c M3= .ok d M4):e3 op f g h env M= .ok d M4:=by simp only[e3,h1,h2,h3,h4,R3.bind]
noncomputable def pC(x:List Nat):Bool:=decide (x=[97,100,100]\/x=[115,117,98]\/x=[109,111,114,101]\/x=[99,101,108,108])
theorem Nk(s:Nat)(b:Nat):∀ts:List (List Nat),(∀t∈ts,t.length<=b)->lG [s] ts<=ts.length*(b+1)/\(glue [s] ts).length<=ts.length*(b+1):=by
 intro ts
 induction ts with
 |nil=>intro _;exact⟨by simp[lG],by simp[glue]⟩|cons t ts ih=>
  intro h;have ht:=h t (Yc ..);obtain⟨i1,i2⟩:=ih λq hq=>h q (Yd _ hq);have e1:lG [s] (t::ts)=t.length+1+lG [s] ts:=by simp[lG]
  have e3:(ts.length+1)*(b+1)=ts.length*(b+1)+(b+1):=Nat.succ_mul ..;rw[e1,Yk,e3];refine⟨lD 2 0xa3c1c0a2cc032011001 T1 i1 ht,?_⟩;cases ts with
  |nil=>show t.length<=_;exact lC 1 0xa1c2c001001 T1 ht|cons u ts=>rw[tK,Yf,Yf];show t.length+(1+_)<=_;exact lD 2 0xa3c1c0ac2c032011001 T1 i2 ht
theorem strs_map:∀ts:List (List Nat),iI (ts.map D.str)=Ya ts
 |[]=>rfl|t::ts=>by show(iI (ts.map D.str)).map _=_;rw[strs_map ts];rfl
variable{s:Nat}
theorem Nm{ts:List (List Nat)}(h:M[n]?=Ya (.lst (ts.map D.str)))(hz:lG [s] ts<=SZ):uJ (.str [s]) [.ref n] M= .ok (.str (glue [s] ts)) M:=by simp only[Zmz,h,strs_map,if_pos hz]
variable{x:List Nat}
theorem u0{m:D->List D->Store->R3 D}{o:E3}{M M1 M2:Store}{d r:D}(h1:o env M= .ok (.str x) M)(h2:g env M= .ok d M1)(h3:m (.str x) [d] M1= .ok r M2):aG fM m o (Zb g Zf) env M= .ok r M2:=by simp only[aG,h1,R3.bind,ZwO,if_true,Zb,h2,Zf,h3]
theorem ZoE{i:Int}(h:i.natAbs<10^60):(gF i).length<=61:=(VH i h).2.1
theorem Zvl{i:Int}(h:i.natAbs<10^60):i.natAbs.log2<1920:=by
 by_cases z:i.natAbs=0
 .rw[z];decide
 .exact(Nat.log2_lt z).mpr (nT h (by decide +kernel))
noncomputable abbrev u5:List Nat:=[48,49,50,51,52,53,54,55,56,57]
theorem in_str(c:Nat)(y:List Nat)(M:Store):mX (.str [c]) (.str y) M= .ok (.bl (decide (c∈y))) M:=rfl
theorem all_map{p:α->Bool}{l:List α}(h:M[n]?=Ya (.lst (l.map λc=>D.bl (p c)))):sS [.ref n] M= .ok (.bl (l.all p)) M:=by
 have a:∀l:List α,(l.map λc=>D.bl (p c)).all BR=true/\(l.map λc=>D.bl (p c)).all yM=l.all p:=by
  intro l
  induction l with
  |nil=>exact⟨rfl,rfl⟩|cons x l ih=>exact⟨by simp only[Ys,kW,BR,ih.1,Bool.and_self],by rw[Ys,kW,kW,ih.2];cases p x<;>rfl⟩
 simp only[BV,h,allB,(a l).1,(a l).2,if_true]
theorem Zjt{w fs:List Nat}(h1:1<=fs.length)(h2:fs.length<=60)(h3:∀r,fs≠48::r):
  (Zr (aK (fH (e2 fQ (aC bx (Zb (Za 1) (Zf))) (eC (.int 1))) (e2 cX (aC bx (Zb (Za 1) (Zf))) (rN))) (aQ (eC (.bl false))) (aW)) (Zr (aK (aG fM sU (Za 1) (Zb (eC (.str [48])) (Zf))) (aQ (e2 bh (Za 0) (eC (.str [48])))) (aW)) (aQ (aC sS (Zb (fW (bZ (Za 1)) 1 (bA 2) [] (e2 mX (Za 2) (vz))) (Zf)))))) [Ya (.str w),Ya (.str fs)] M= .rt (.bl (fs.all λc=>decide (c∈u5))) (M++[.lst (fs.map λc=>D.bl (decide (c∈u5)))]):=by
 have hz:fs.length<=SZ:=Yi h2 (by decide);have ln:(aC bx (Zb (Za 1) (Zf))) [Ya (.str w),Ya (.str fs)] M= .ok (.int fs.length) M:=cC (a:=.str fs) rfl (by simp only[yJ,yK,yL,qT,if_pos hz]);have c1:(fH (e2 fQ (aC bx (Zb (Za 1) (Zf))) (eC (.int 1))) (e2 cX (aC bx (Zb (Za 1) (Zf))) (rN))) [Ya (.str w),Ya (.str fs)] M= .ok (.bl false) M:=by rw[n6 (M1:=M) (Zh ln rfl (by simp only[nY];rw[decide_eq_false (by exactλz=>iN [_] [] 2 415002921105 T1 z h1)]))];exact Zh ln (g:=rN) (b:=.int 60) rfl (by simp only[jP];rw[decide_eq_false (by exactλz=>iN [_] [] 2 0x63c2b001083c2b91 T1 z h2)])
 have c2:(aG fM sU (Za 1) (Zb (eC (.str [48])) (Zf))) [Ya (.str w),Ya (.str fs)] M= .ok (.bl false) M:=by
  refine u0 (d:=.str [48]) rfl rfl ?_;cases fs with
  |nil=>exact absurd h1 (by decide)|cons c r=>
   have q:¬48=c:=λe=>h3 r (by rw[e]);have e:([48]:List Nat).isPrefixOf (c::r)=false:=by show((48==c)&&Qo [] r)=false;rw[beq_eq_false_iff_ne.mpr q];rfl
   simp only[GD];rw[if_pos ⟨hz,by decide⟩,e]
 rw[Zi (cY c1),Zi (cY c2)];have hi:(bZ (Za 1)) [Ya (.str w),Ya (.str fs)] M= .ok ⟨fs.map (λc=>D.str [c]),Ym⟩ M:=by simp only[bZ,Za,Fd,Jl,R3.bind,if_pos hz]
 have lc:=sZ (h:=λc=>D.bl (decide (c∈u5))) (own:=1) (i:=2) (elt:=(e2 mX (Za 2) (vz))) hi (λn z=>nomatch z)
  (λc hc M'=>Zh (a:=.str [c]) (b:=.str u5) rfl rfl (in_str c u5 M')) (Yi h2 (by decide))
 exact di (cC lc (all_map (Zo _ _ _)))
variable{c:Nat}
theorem ZwS(h:48<=c/\c<=57):c∈u5:=(Yk2:c∈vM 48 10↔_).mpr ⟨h.1,JQ h.2⟩
theorem Zm8{i:Int}(h:i.natAbs<10^60)(M:Store):rE [.str (gF i)] M= .ok (.bl true) M:=by
 have go:∀(n:Nat) (w:List Nat),0<n->n<10^60->(kh (aG fM sU (Za 0) (Zb (eC (.str [45])) (Zf))) (eU (Za 0) (dG (eC (.int 1))) (fV)) (Za 0)) [Ya (.str w),Ym] M= .ok (.str (cU n)) M->rE [.str w] M= .ok (.bl true) M:=λn w h0 h1 hf=>by
  refine Rt.pure (G:=[.lst ((cU n).map λc=>D.bl (decide (c∈u5)))]) (env:=[Ya (.str w),Ym]) ?_ rfl;unfold Hs;rw[Zi (Zq hf)];refine(Zjt ?_ (HJ 59 n h1) (Zqn n h0)).trans (by rw[iw.mpr λc hc=>decide_eq_true (ZwS (w5 n c hc))]);cases e:cU n with
  |nil=>exact absurd e (HF n)|cons _ _=>exact Ax 1 _
 cases i with
 | ofNat n=>
  have e:gF (Int.ofNat n)=cU n:=Ni n;have hp:(kh (aG fM sU (Za 0) (Zb (eC (.str [45])) (Zf))) (eU (Za 0) (dG (eC (.int 1))) (fV)) (Za 0)) [Ya (.str (cU n)),Ym] M= .ok (.str (cU n)) M:=by
   rw[B_ (M1:=M)]
   .rfl
   .refine u0 (d:=.str [45]) rfl rfl ?_;have hl:=HJ 59 n h;have e:([45]:List Nat).isPrefixOf (cU n)=false:=by
     cases q:cU n with
     |nil=>rfl|cons c r=>have qc:=w5 n c (by rw[q];exact Yc ..);show((45==c)&&Qo [] r)=false;rw[beq_eq_false_iff_ne.mpr (by exactλz=>lA 2 0x60302b0102d2b31 T1 z qc.1)];rfl
    simp only[GD];rw[if_pos ⟨Yi hl (by decide),by decide⟩,e]
  rw[e];by_cases z:n=0
  .subst z;refine Rt.pure (G:=[]) (env:=[Ya (.str (cU 0)),Ym]) ?_ rfl;rw[kO];unfold Hs;rw[Zi (Zq hp),zF (by decide)];simp[Zr,aK,aQ,aW,rN]
  .exact go n _ (Ykm z) h hp
 | negSucc n=>
  rw[Nj];have hl:=HJ 59 (n+1) h;refine go (n+1) _ (Nat.succ_pos n) h ?_;rw[BZ (M1:=M)]
  .have e:cutD (45::cU (n+1)) (Ya 1) Ym=cU (n+1):=Ea (45::cU (n+1)) 1;have hz:(45::cU (n+1)).length<=SZ:=Yi (pO hl) (by decide);simp only[eU,Za,dG,fV,eC,R3.bind,Jl,Gx,Gy,BJ,BK,if_pos hz,e]
  .refine u0 (d:=.str [45]) rfl rfl ?_;have hz:(45::cU (n+1)).length<=SZ:=Yi (pO hl) (by decide);simp only[GD];rw[if_pos ⟨hz,by decide⟩];rfl
theorem ZmF(h1:1<=x.length)(h2:x.length<=60)(h3:∀c∈x,97<=c)(M:Store):rE [.str x] M= .ok (.bl false) M:=by
 have hz:x.length<=SZ:=Yi h2 (by decide);obtain⟨c,r,rfl⟩:∃c r,x=c::r:=by
  cases x with
  |nil=>exact absurd h1 (by decide)|cons c r=>exact⟨c,r,rfl⟩
 have hc:97<=c:=h3 c Yc;have hp:(kh (aG fM sU (Za 0) (Zb (eC (.str [45])) (Zf))) (eU (Za 0) (dG (eC (.int 1))) (fV)) (Za 0)) [Ya (.str (c::r)),Ym] M= .ok (.str (c::r)) M:=by
  rw[B_ (M1:=M)]
  .rfl
  .refine u0 (d:=.str [45]) rfl rfl ?_;have e:([45]:List Nat).isPrefixOf (c::r)=false:=by
    show((45==c)&&Qo [] r)=false;rw[beq_eq_false_iff_ne.mpr (by exactλz=>lA 2 0x60612b0102d2b31 T1 z hc)];rfl
   simp only[GD];rw[if_pos ⟨hz,by decide⟩,e]
 refine Rt.pure (G:=[.lst ((c::r).map λc=>D.bl (decide (c∈u5)))]) (env:=[Ya (.str (c::r)),Ym]) ?_ rfl;unfold Hs;rw[Zi (Zq hp)];refine(Zjt h1 h2 (λq e=>by have:=(je e).1;exact lA 2 0x60612b01302b021 T1 this hc)).trans ?_;have hn:decide (c∈u5)=false:=decide_eq_false λz=>by simp only[Yo,qD,or_false]at z;omega
 rw[kW,hn,Q6]
inductive Sm where
 |num (i:Int)|eG (x:List Nat)|jy (a:Sm)|two (o:Nat) (a b:Sm)
noncomputable abbrev oK:List Nat:=[99,101,108,108]
noncomputable def w6:Nat->List Nat
 |0=>[97,100,100]|1=>[115,117,98]|_=>[109,111,114,101]
noncomputable def Sm.flat:Sm->List D
 | .num i=>[.int i]|.eG x=>[.str x]|.jy a=>.str oK::a.flat|.two o a b=>.str (w6 o)::(a.flat++b.flat)
noncomputable def Sm.good:Sm->Prop
 | .num _=>True|.eG x=>pC x=false|.jy a=>a.good|.two _ a b=>a.good/\b.good
noncomputable def Sm.all(Q:List Nat->Prop):Sm->Prop
 | .num _=>True|.eG x=>Q x|.jy a=>a.all Q|.two _ a b=>a.all Q/\b.all Q
noncomputable def Sm.parts:Sm->List Sm
 | .num _=>[]|.eG _=>[]|.jy a=>[a]|.two _ a b=>[a,b]
noncomputable def Sm.head:Sm->D
 | .num i=>.int i|.eG x=>.str x|.jy _=>.str oK|.two o _ _=>.str (w6 o)
theorem Sm.Iw(t:Sm):t.flat=t.head::(t.parts.map Sm.flat).flatten:=by cases t<;>simp[Sm.flat,Sm.head,Sm.parts]
noncomputable def ar:D->Nat
 | .str x=>if x=oK then 1 else if pC x=true then 2 else 0|_=>0
inductive mD:D->Prop
 |int (i:Int):mD (.int i)
 |str (x:List Nat):mD (.str x)
theorem Eb:∀(t:Sm),∀d∈t.flat,mD d
 | .num i,d,h=>by rw[Yy.mp h];exact .int i|.eG x,d,h=>by rw[Yy.mp h];exact .str x|.jy a,d,h=>by
  rcases Yo.mp h with h|h
  .rw[h];exact .str _
  .exact Eb a d h
 | .two o a b,d,h=>by
  rcases Yo.mp h with h|h
  .rw[h];exact .str _
  .rcases fj.mp h with h|h
   .exact Eb a d h
   .exact Eb b d h
theorem Zrn(x:List Nat):dD x pB=if x=[97,100,100]then Ya 2 else if x=[115,117,98]then Ya 2 else if x=[109,111,114,101]then Ya 2 else if x=oK then Ya 1 else Ym:=rfl
variable{w:D}
theorem Zv9(h:mD w)(M:Store):uM pB w (.int 0) M= .ok (.int (ar w:Nat)) M:=by
 cases h with
 |int i=>rfl|str x=>
  show(match dD x pB with|some i=>R3.ok (D.int i) M|none=>R3.ok (D.int 0) M)=_;rw[Zrn];by_cases h1:x=[97,100,100]
  .subst h1;rfl
  by_cases h2:x=[115,117,98]
  .subst h2;rfl
  by_cases h3:x=[109,111,114,101]
  .subst h3;rfl
  by_cases h4:x=oK
  .subst h4;rfl
  have:pC x=false:=decide_eq_false λz=>z.elim h1 λz=>z.elim h2 λz=>z.elim h3 h4;simp only[if_neg h1,if_neg h2,if_neg h3,if_neg h4,ar,this];rfl
noncomputable def stp(s:List (List D)×Nat)(w:D):List (List D)×Nat:=
 let s:=if s.2=0 then(s.1++[[]],1)else s
 (s.1.dropLast++[s.1.getLastD []++[w]],s.2-1+ar w)
theorem Ec(ds:List (List D))(cur:List D)(l:Nat)(w:D):stp (ds++[cur],l+1) w=(ds++[cur++[w]],l+ar w):=by simp[stp]
theorem ZpK(ds:List (List D))(w:D):stp (ds,0) w=stp (ds++[[]],0+1) w:=by simp[stp]
theorem Np:∀(t:Sm),t.good->∀(ds:List (List D)) (cur:List D) (l:Nat) (r:List D),(t.flat++r).foldl stp (ds++[cur],l+1)=r.foldl stp (ds++[cur++t.flat],l)
 | .num i,_,ds,cur,l,r=>by simp only[Sm.flat,pM,jk,jG,Ec];rfl|.eG x,h,ds,cur,l,r=>by
  have e:ar (.str x)=0:=by
   have h:pC x=false:=h;have h':x≠oK:=λz=>by subst z;exact absurd h (by decide)
   simp only[ar,if_neg h',h];rfl
  simp only[Sm.flat,pM,jk,jG,Ec,e,JV]
 | .jy a,h,ds,cur,l,r=>by have e:ar (.str oK)=1:=rfl;simp only[Sm.flat,pM,jG,Ec,e,Np a h,gM,jk]|.two o a b,h,ds,cur,l,r=>by
  have e:ar (.str (w6 o))=2:=by
   match o with
   |0=>rfl|1=>rfl|_+2=>rfl
  have e2:l+2=l+1+1:=rfl;simp only[Sm.flat,pM,jG,Ec,e,gM,e2,Np a h.1,Np b h.2,jk]
theorem VL(t:Sm):∃w r,t.flat=w::r:=⟨_,_,t.Iw⟩
theorem Zs2(t:Sm)(h:t.good)(ds:List (List D))(r:List D):(t.flat++r).foldl stp (ds,0)=r.foldl stp (ds++[t.flat],0):=by obtain⟨w,q,e⟩:=VL t;have h1:=Np t h ds [] 0 r;rw[jk]at h1;rw[←h1,e,pM,jG,jG,ZpK]
theorem ZpC:∀(ts:List Sm),(∀t∈ts,t.good)->∀ds,(ts.map Sm.flat).flatten.foldl stp (ds,0)=(ds++ts.map Sm.flat,0)
 |[],_,ds=>by simp|t::ts,h,ds=>by rw[Ys,kJ,Zs2 t (h t Yc),ZpC ts λt ht=>h t (Yd _ ht)];simp
noncomputable def nD(n j:Nat):List D:=(iC j).map λk=>D.ref (n+1+k)
noncomputable def eN(M:Store)(done:List (List D)):Store:=M++ .lst (nD M.length done.length)::done.map MO.lst
theorem Zo0(M:Store)(done:List (List D)):(eN M done).length=M.length+1+done.length:=by simp only[eN,Yf,Yk,Yu];exact Y1 (lB 0 1790139547840 T1) (lB 0 0xa1c0c1a0cc0 T1)
theorem HN(M:Store)(done:List (List D)):(eN M done)[M.length]?=Ya (.lst (nD M.length done.length)):=Zo _ _ _
theorem ZrR(M:Store)(done:List (List D))(k:Nat):(eN M done)[M.length+1+k]?=(done[k]?).map MO.lst:=by rw[eN,qI,sY,mH 1 k,Fd,lO]
theorem Zj6(n j:Nat):nD n (j+1)=nD n j++[D.ref (n+1+j)]:=by simp[nD,List.range_succ]
theorem Zuk(M:Store)(done:List (List D)):(eN M done++[MO.lst []]).set M.length (MO.lst (nD M.length done.length++[D.ref (eN M done).length]))=eN M (done++[[]]):=by have h:=GQ M (MO.lst (nD M.length done.length)::done.map MO.lst++[MO.lst []]) 0 (MO.lst (nD M.length done.length++[D.ref (eN M done).length]));rw[JV]at h;rw[Zo0]at h ⊢;rw[eN,gM,h,eN,Yf,jj,Zj6];simp
theorem ZsS(M:Store)(ds:List (List D))(cur:List D)(w:D):(eN M (ds++[cur])).set (M.length+1+ds.length) (MO.lst (cur++[w]))=eN M (ds++[cur++[w]]):=by rw[eN,qI,GQ,eN];simp[mH 1]
theorem ZkI{α:Type}{enc h:α->D}{it:gm}{g:G3}{n:Nat}{elt:E3}{I:bK->Prop}{M:Store}:∀(as:List α) (acc:List D) (env:bK),I env ->
  (∀a∈as,∀env,I env->∃dR,g (enc a) env=Ya dR/\I dR/\∀x,elt dR (M.set n (.lst x))= .ok (h a) (M.set n (.lst x)))->(∀x,locked it (M.set n (.lst x))=true)->n<M.length->acc.length+as.length<=SZ ->
  jf it g [] elt n (as.map enc) env (M.set n (.lst acc))= .ok (.ref n) (M.set n (.lst (acc++as.map h)))
 |[],acc,env,_,_,hl,_,_=>by simp only[uc,TJ,hl,if_true,kO]|a::as,acc,env,hI,hf,hl,hn,hz=>by
  obtain⟨dR,hg,hI1,he⟩:=hf a Yc env hI;have gt:(M.set n (.lst acc))[n]?=Ya (.lst acc):=by simp[hn]
  have lt:acc.length<SZ:=by simp only[Yk]at hz;exact lC 1 2204024704001 T1 hz
  have ih:=ZkI as (acc++[h a]) dR hI1 (λb hb=>hf b (Yd _ hb)) hl hn (by simp only[Yf,Yk,Fi]at hz ⊢;exact lC 1 0x21aec0cc02a1c0c01 T1 hz);simp only[Ys,Lg,hl,if_true,hg,GJ,GK,R3.bind,he,gt,lt,vL];rw[ih];simp
theorem VN{enc h:α->D}{own:Nat}{i:I3}{g:G3}{elt:E3}{M M1:Store}{lock:Option Nat}{as:List α}(I:bK->Prop)(hi:i env M= .ok ⟨as.map enc,lock⟩ M1)(Ph:∀n,lock=Ya n->M1[n]?=Ya (.lst (as.map enc)))(hI:I (env++Yr own Ym))(hf:∀a∈as,∀env,I env->∃dR,g (enc a) env=Ya dR/\I dR/\∀x,elt dR (M1++[.lst x])= .ok (h a) (M1++[.lst x]))(hz:as.length<=100000):
  fW i own g [] elt env M= .ok (.ref M1.length) (M1++[.lst (as.map h)]):=by
 have st:∀x:List D,(M1++[MO.lst []]).set M1.length (.lst x)=M1++[.lst x]:=λx=>by simp
 rw [TQ hi];have:=ZkI (enc:=enc) (h:=h) (it:=⟨as.map enc,lock⟩) (g:=g) (n:=M1.length) (elt:=elt) (I:=I) (M:=M1++[.lst []]) as [] (env++Yr own Ym) hI
  (λa ha e he=>by obtain⟨e1,h1,h2,h3⟩:=hf a ha e he;exact⟨e1,h1,h2,λx=>by rw[st];exact h3 x⟩)
  (λx=>by
   rw[st];cases lock with
   |none=>rfl|some n=>simp only[locked,decide_eq_true_eq];exact bL (Ph n rfl) _) (by simp) (by simp;exact lA 1 0xf42405b00186a05b001 T1 hz)
 rw[st,st]at this;simpa using this
theorem Zn9{x:List D}(h:M[n]?=Ya (.lst x)):gC [.ref n] M= .ok (.tup x) M:=by simp[h]
noncomputable abbrev VP:S3:=Zr (aK (e2 bh (Za 2) (eC (.int 0))) (Zr (aU (aG bj cu (Za 1) (Zb (aV (Zf)) (Zf)))) (aA 2 (eC (.int 1)))) (aW)) (Zr (aU (aG bj cu (e2 Zn (Za 1) (e1 cL (eC (.int 1)))) (Zb (Za 3) (Zf)))) (aA 2 (e2 aN (e2 iH (Za 2) (eC (.int 1))) (e2 (uM pB) (Za 3) (eC (.int 0))))))
theorem ZpR(n j:Nat):(nD n j).length=j:=by simp[nD]
theorem nF{M M' M2:Store}{d:D}{o t:E3}(ho:o env M= .ok (.ref n) M')(hM:M'[n]?=Ya (.lst xs))(ht:t env M'= .ok d M2)(hM':M2[n]?=Ya (.lst xs))(hl:xs.length<SZ):
  aU (aG bj cu o (Zb t (Zf))) env M= .nx env (M2.set n (.lst (xs++[d]))):=by
 have e:aG bj cu o (Zb t (Zf)) env M= .ok .non (M2.set n (.lst (xs++[d]))):=by simp only[aG,ho,R3.bind,yN,hM,Zb,ht,Zf,Tu,hM',if_pos hl,if_true]
 rw[aU,e]
theorem ZmT(M:Store)(ds:List (List D))(cur:List D)(l:Nat)(w W:D)(hw:mD w)(h1:ds.length<1000)(h2:cur.length<1000):
  (Zr (aU (aG bj cu (e2 Zn (Za 1) (e1 cL (eC (.int 1)))) (Zb (Za 3) (Zf)))) (aA 2 (e2 aN (e2 iH (Za 2) (eC (.int 1))) (e2 (uM pB) (Za 3) (eC (.int 0)))))) [Ya W,Ya (.ref M.length),Ya (.int ((l+1:Nat):Int)),Ya w] (eN M (ds++[cur]))
   = .nx [Ya W,Ya (.ref M.length),Ya (.int ((l+ar w:Nat):Int)),Ya w] (eN M (ds++[cur++[w]])):=by
 have hr:nD M.length (ds++[cur]).length=nD M.length ds.length++[.ref (M.length+1+ds.length)]:=by rw[Yf,jj,Zj6]
 have hat:(eN M (ds++[cur]))[M.length+1+ds.length]?=Ya (.lst cur):=by rw[ZrR];simp
 refine(Zi (nF (M':=eN M (ds++[cur])) (Zh rfl (dM rfl (yF 1)) (iY (HN M _) (by rw[hr];exact getD_last _ _))) hat rfl hat (nT h2 (by decide)))).trans ?_;rw[ZsS];refine Zq (Zh (Zh rfl rfl rfl) (Zh rfl rfl (Zv9 hw _)) ?_);rw[uH];congr 2;exact qJ (iN [_,_] [] 0 4723607885090760 T1) (iN [_,_] [] 0 6942370369178760 T1)
theorem ZpV(M:Store)(done:List (List D))(l:Nat)(w W:D)(hw:mD w)(h1:done.length<900)(h2:∀c∈done,c.length<900)(hn:l≠0->done≠[]):
  VP [Ya W,Ya (.ref M.length),Ya (.int (l:Int)),Ya w] (eN M done)= .nx [Ya W,Ya (.ref M.length),Ya (.int ((stp (done,l) w).2:Nat)),Ya w] (eN M (stp (done,l) w).1):=by
 cases l with
 |zero=>
  rw[ZpK,Ec];have hz:(nD M.length done.length).length<SZ:=by rw[ZpR];exact nT h1 (by decide)
  show Zr _ _ _ _=_;refine(Zi ((fX (Zh rfl rfl (wF rfl))).trans ((Zi (VJ rfl (HN M done) (dz rfl rfl) (bL (HN M done) _) hz)).trans (Zq (d:=.int 1) rfl)))).trans ?_;rw[Zuk];exact ZmT M done [] 0 w W hw (lA 1 0x3e83b013843b011 T1 h1) (by simp)
 |succ l=>have hd:=hn (λz=>lA 1 116001825 T1 z);have e:done=done.dropLast++[done.getLast hd]:=(List.dropLast_concat_getLast hd).symm;generalize done.dropLast=ds at e;generalize done.getLast hd=cur at e;subst e;rw[Ec];show Zr _ _ _ _=_;refine(Zi (cY (Zh rfl rfl (BX (λz=>iN [_] [] 1 1856030881 T1 z))))).trans ?_;exact ZmT M ds cur l w W hw (by simp at h1;exact lA 1 0x3e83b013843ba0c11 T1 h1) (by have:=h2 cur (by simp);exact lA 1 0x3e83b013843b011 T1 this)
theorem ZoQ(s:List (List D)×Nat)(w:D):(stp s w).1.length<=s.1.length+1/\(stp s w).1≠[]:=by
 unfold stp;by_cases h:s.2=0
 .simp[h]
 .simp[h]
theorem ZtT(s:List (List D)×Nat)(w:D)(k:Nat)(h:∀c∈s.1,c.length<=k):∀c∈(stp s w).1,c.length<=k+1:=by
 have key:∀x:List (List D),(∀c∈x,c.length<=k)->∀c∈x.dropLast++[x.getLastD []++[w]],c.length<=k+1:=by
  intro x hx c hc;rcases fj.mp hc with hc|hc
  .exact rZ (hx c (List.dropLast_subset _ hc))
  .rw[Yy.mp hc,Yf,jj];refine pO ?_;cases x with
   |nil=>exact fC _|cons a x=>exact hx _ (by rw[List.getLastD_cons];exact(show(x.getLastD a)∈a::x by rw[List.getLastD_eq_getLast?];cases hx':x.getLast? with|none=>simp|some y=>exact Yd _ (List.mem_of_getLast? hx')))
 unfold stp;by_cases hs:s.2=0
 .simp only[hs,if_true];exact key _ λc hc=>by
   rcases fj.mp hc with hc|hc
   .exact h c hc
   .rw[Yy.mp hc];exact fC _
 .simp only[hs,if_false];exact key _ h
theorem ZpP(M:Store)(W:D)(ws:List D)(hw:∀w∈ws,mD w)(hl:ws.length<=500)(x0:Option D)(it:gm)(hi:∀done,locked it (eN M done)=true):
  ∃x,dH it (bA 3) VP ws [Ya W,Ya (.ref M.length),Ya (.int 0),x0] (eN M [])= .nx [Ya W,Ya (.ref M.length),Ya (.int ((ws.foldl stp ([],0)).2:Nat)),x] (eN M (ws.foldl stp ([],0)).1):=by
 have main:∀(ws:List D) (done:List (List D)) (l k:Nat) (x0:Option D),(∀w∈ws,mD w)->k+ws.length<=500->done.length<=k->(∀c∈done,c.length<=k)->(l≠0->done≠[]) ->
   ∃x,dH it (bA 3) VP ws [Ya W,Ya (.ref M.length),Ya (.int (l:Int)),x0] (eN M done)= .nx [Ya W,Ya (.ref M.length),Ya (.int ((ws.foldl stp (done,l)).2:Nat)),x] (eN M (ws.foldl stp (done,l)).1):=by
  intro ws
  induction ws with
  |nil=>intro done l k x0 _ _ _ _ _;exact⟨x0,by rw[pZ,if_pos (hi _)];rfl⟩|cons w ws ih=>intro done l k x0 hw hk h1 h2 hn;rw[Yk]at hk;obtain⟨x,hx⟩:=ih (stp (done,l) w).1 (stp (done,l) w).2 (k+1) (Ya w) (λy hy=>hw y (Yd _ hy)) (lB 1 0x1f43b1a0cc01f43ba1c0c01 T1 hk) (by have:=(ZoQ (done,l) w).1;simp only at this;exact lC 2 0xa2c002101a1c001 T1 this h1) (ZtT (done,l) w k h2) (λ_=>(ZoQ (done,l) w).2);refine⟨x,?_⟩;rw[o8,if_pos (hi _)];have:=ZpV M done l w W (hw w Yc) (lC 2 0x3843b011f43ba2c1c011001 T1 h1 hk) (λc hc=>by have:=h2 c hc;exact lC 2 0x3843b011f43ba2c1c011001 T1 this hk) hn;simp only[bA,lK,lM,this];exact hx
 exact main ws [] 0 0 x0 hw (lA 1 0x1f43b0ec01f43b001 T1 hl) (fC _) (λc hc=>by cases hc) (λh=>absurd rfl h)
theorem ZiE(M:Store)(ts:List Sm)(hg:∀t∈ts,t.good)(hl:(ts.map Sm.flat).flatten.length<=500){W:D}{it:gm}(hit:it.items=(ts.map Sm.flat).flatten)(hi:∀done,locked it (eN M done)=true)(hv:bZ (Za 0) [Ya W,Ya (.ref M.length),Ya (.int 0),Ym] (eN M [])= .ok it (eN M [])):∃G k,wW [W] M= .ok (.ref (M.length+k)) (M++G)/\G[k]?=Ya (.lst (ts.map λt=>.tup t.flat)):=by
 have hws:∀w∈(ts.map Sm.flat).flatten,mD w:=λw hw=>by obtain⟨l,h1,h2⟩:=Ql.mp hw;obtain⟨t,_,rfl⟩:=dZ.mp h1;exact Eb t w h2
 obtain⟨x,hx⟩:=ZpP M W _ hws hl Ym it hi;rw[ZpC ts hg]at hx;simp only[jk]at hx;have hn:(ts.map Sm.flat).length<=100000:=by
  have:∀l:List Sm,(l.map Sm.flat).length<=(l.map Sm.flat).flatten.length:=by
   intro l
   induction l with
   |nil=>exact Yt _|cons t l ih=>rw[Ys,kJ,Yf,Yk];obtain⟨w,r,e⟩:=VL t;rw[e,Yk];exact lC 1 460474730680321 T1 ih
  have:=this ts;exact lB 2 0x186a05b001f43b1011001 T1 this hl
 let S:=eN M (ts.map Sm.flat)
 have lc:fW (bZ (Za 1)) 1 (bA 4) [] (aC gC (Zb (Za 4) (Zf))) [Ya W,Ya (.ref M.length),Ya (.int ((0:Nat):Int)),x] S= .ok (.ref S.length) (S++[.lst ((iC (ts.map Sm.flat).length).map λk=>D.tup ((ts.map Sm.flat).getD k []))]):=by
  refine VN (enc:=λk=>D.ref (M.length+1+k)) (h:=λk=>D.tup ((ts.map Sm.flat).getD k [])) (as:=iC (ts.map Sm.flat).length) (M1:=S) (lock:=Ya M.length) (λe=>∃a b c d y,e=[a,b,c,d,y]) ?_ ?_ ⟨_,_,_,_,_,rfl⟩ ?_ (by rw[Jq];exact hn)
  .show(R3.ok (D.ref M.length) S).bind _=_;simp only[R3.bind];rw[show S[M.length]?=_ from HN M _];rfl
  .intro n hn';cases hn';exact HN M _
  .intro k hk env ⟨a,b,c,d,y,e⟩;subst e;have hk:=Jr.mp hk;refine⟨_,rfl,⟨_,_,_,_,_,rfl⟩,λz=>?_⟩;refine cC rfl ?_;refine(Zn9 (x:=(ts.map Sm.flat).getD k []) (bL ?_ _));rw[ZrR,Y3 hk,Fb,Y3 hk];rfl
 have hlist:((iC (ts.map Sm.flat).length).map λk=>D.tup ((ts.map Sm.flat).getD k []))=ts.map λt=>D.tup t.flat:=by
  apply xU;intro j;rw[lO,lO];by_cases hj:j<ts.length
  .rw[List.getElem?_range (by simpa using hj),Y3 hj];simp[Fb,lO,Y3 hj]
  .rw[Jo (by simpa using hj),Jo (by simpa using hj)];rfl
 rw[hlist]at lc;have hS:S=M++(.lst (nD M.length (ts.map Sm.flat).length)::(ts.map Sm.flat).map MO.lst):=rfl;refine⟨(.lst (nD M.length (ts.map Sm.flat).length)::(ts.map Sm.flat).map MO.lst)++[.lst (ts.map λt=>.tup t.flat)],1+(ts.map Sm.flat).length,?_,?_⟩
 .have hlen:S.length=M.length+(1+(ts.map Sm.flat).length):=by rw[Zo0,qI]
  refine(jQ (M':=S++[.lst (ts.map λt=>.tup t.flat)]) (d:=.ref S.length) (env:=[Ya W,Ym,Ym,Ym]) ?_).trans ?_
  .unfold Vb;rw[Zi (Zq (d:=.ref M.length) (M':=eN M []) (dz rfl rfl)),Zi (Zq (d:=.int 0) rfl),Zi ((qX (it:=it) hv).trans (by rw[hit];exact hx))];exact di ((BZ (Zh rfl rfl (wF rfl))).trans lc)
  .have hb:below M.length (.ref S.length)=false:=by show decide (S.length<M.length)=false;rw[hlen];exact decide_eq_false (λz=>lB 1 25797856273 T1 z)
   rw[eV,hb,hlen,hS,gM];rfl
 .simp[mH 1]
theorem Zor(M:Store)(ts:List Sm)(hg:∀t∈ts,t.good)(hl:(ts.map Sm.flat).flatten.length<=500):∃G k,wW [.tup (ts.map Sm.flat).flatten] M= .ok (.ref (M.length+k)) (M++G)/\G[k]?=Ya (.lst (ts.map λt=>.tup t.flat)):=ZiE M ts hg hl (it:=⟨(ts.map Sm.flat).flatten,Ym⟩) rfl (λ_=>rfl) rfl
theorem Zm4(M:Store)(ts:List Sm)(hg:∀t∈ts,t.good)(hl:(ts.map Sm.flat).flatten.length<=500)(hn:M[n]?=Ya (.lst (ts.map Sm.flat).flatten)):∃G k,wW [.ref n] M= .ok (.ref (M.length+k)) (M++G)/\G[k]?=Ya (.lst (ts.map λt=>.tup t.flat)):=by have hS:∀done,(eN M done)[n]?=Ya (.lst (ts.map Sm.flat).flatten):=λdone=>bL hn _;refine ZiE M ts hg hl (it:=⟨(ts.map Sm.flat).flatten,Ya n⟩) rfl (λdone=>decide_eq_true (hS done)) ?_;show(R3.ok (D.ref n) (eN M [])).bind _=_;simp only[R3.bind];rw[hS []]
theorem Zsw(M:Store)(t:Sm)(hg:t.good)(hl:t.flat.length<=500):∃G k,Mw [.tup t.flat] M= .ok (.ref (M.length+k)) (M++G)/\G[k]?=Ya (.lst (t.parts.map λt=>.tup t.flat)):=by
 have hgp:∀s∈t.parts,s.good:=by
  cases t with
  |num _=>intro s h;cases h|eG _=>intro s h;cases h|jy a=>intro s h;rw[Yy.mp h];exact hg|two o a b=>
   intro s h;rcases Yo.mp h with h|h
   .rw[h];exact hg.1
   .rw[Yy.mp h];exact hg.2
 have e:=t.Iw;have hl':(t.parts.map Sm.flat).flatten.length<=500:=by rw[e,Yk]at hl;exact lA 1 0x1f43b001f43ba0c01 T1 hl
 obtain⟨G,k,h1,h2⟩:=Zor M t.parts hgp hl';refine⟨G,k,?_,h2⟩;refine(jQ (M':=M++G) (d:=.ref (M.length+k)) (env:=[Ya (.tup t.flat)]) ?_).trans ?_
 .unfold Vc;refine di (dJ (M1:=M) (a:=.tup (t.parts.map Sm.flat).flatten) ?_ h1);show R3.ok (D.tup (cutD t.flat (Ya ((1:Nat):Int)) Ym)) M=_;rw[Ea,e];rfl
 .have hb:below M.length (.ref (M.length+k))=false:=decide_eq_false (λz=>lB 1 100731921 T1 z);rw[eV,hb];rfl
noncomputable def Sm.dp:Sm->Nat
 | .num _=>1|.eG _=>1|.jy a=>a.dp|.two _ a b=>max a.dp (b.dp+1)
noncomputable def pD:Nat->List Sm->List Int
 |_,[]=>[]|k,t::r=>((t.dp+k:Nat):Int)::pD (k+1) r
theorem HS{lk:List (Nat×List D)}(h:jR lk M=true)(G:Store):jR lk (M++G)=true:=by simp only[jR,iw,decide_eq_true_eq]at h ⊢;exactλq hq=>bL (h q hq) G
theorem VR{F:F3}{M:Store}{lk:List (Nat×List D)}(hlk:jR lk M=true){i j:Nat}(I:bK->Prop)(hI:∀env,I env->∀a b:D,I ((env.set i (Ya a)).set j (Ya b))/\∀M:Store,Za j ((env.set i (Ya a)).set j (Ya b)) M= .ok b M/\Za i ((env.set i (Ya a)).set j (Ya b)) M= .ok a M):
  ∀(ts:List Sm) (k:Nat) (acc:List D) (env:bK),I env->(∀t∈ts,∀M,F [.tup t.flat] M= .ok (.int (t.dp:Int)) M)->acc.length+ts.length<=1000 ->
  jT lk (o7 [i,j]) [] (e2 aN (Zz F (Zb (Za j) (Zf))) (Za i)) M.length (m9 k (ts.map λt=>D.tup t.flat)) env (M++[.lst acc])= .ok (.ref M.length) (M++[.lst (acc++(pD k ts).map D.int)])
 |[],k,acc,env,_,_,_=>by show jT _ _ _ _ _ [] _ _=_;simp only[jT,HS hlk,if_true,pD,uc,kO]|t::ts,k,acc,env,hE,hF,hl=>by
  rw[Yk]at hl;obtain⟨hE',hv⟩:=hI env hE (.int (k:Int)) (.tup t.flat);have ih:=VR hlk I hI ts (k+1) (acc++[.int ((t.dp+k:Nat):Int)]) _ hE' (λt ht=>hF t (Yd _ ht)) (by simp;exact lB 1 0x3e83b1a0cc03e83ba1c0c01 T1 hl);have he:e2 aN (Zz F (Zb (Za j) (Zf))) (Za i) ((env.set i (Ya (.int (k:Int)))).set j (Ya (.tup t.flat))) (M++[.lst acc])= .ok (.int ((t.dp+k:Nat):Int)) (M++[.lst acc]):=by refine Zh (dJ (hv _).1 (hF t Yc _)) (hv _).2 ?_;rw[uH];rfl
  have gt:(M++[MO.lst acc])[M.length]?=Ya (.lst acc):=Zo _ _ _;have lt:acc.length<SZ:=rY (show acc.length<=1000 by exact lB 1 0x3e83b003e83ba1c0c01 T1 hl) (by decide);have st:(M++[MO.lst acc]).set M.length (.lst (acc++[.int ((t.dp+k:Nat):Int)]))=M++[.lst (acc++[.int ((t.dp+k:Nat):Int)])]:=by simpa using GQ M [.lst acc] 0 _
  show jT _ _ _ _ _ (.tup [.int (k:Int),.tup t.flat]::m9 (k+1) (ts.map λt=>D.tup t.flat)) _ _=_;simp only[jT,HS hlk,if_true,o7,Lf,Le,GJ,R3.bind,he,gt,lt,st];rw[ih];simp[pD]
theorem Zq8(t:Sm):wU 1 (pD 0 t.parts)=(t.dp:Int):=by
 cases t with
 |num _=>rfl|eG _=>rfl|jy a=>rfl|two o a b=>show(if((b.dp+(0+1):Nat):Int)>((a.dp+0:Nat):Int)then((b.dp+(0+1):Nat):Int)else((a.dp+0:Nat):Int))=((max a.dp (b.dp+1):Nat):Int);split <;>omega
theorem ZsB{t s:Sm}(h:s∈t.parts):s.flat.length<t.flat.length:=by
 have e:=t.Iw;have:s.flat.length<=(t.parts.map Sm.flat).flatten.length:=by
  cases t with
  |num _=>cases h|eG _=>cases h|jy a=>rw[Yy.mp h];simp[Sm.parts]|two o a b=>
   rcases Yo.mp h with h|h
   .rw[h];simp[Sm.parts]
   .rw[Yy.mp h];simp[Sm.parts]
 rw[e,Yk];exact lB 1 43419504641 T1 this
theorem Zoo{t:Sm}(hg:t.good):∀s∈t.parts,s.good:=by
 cases t with
 |num _=>intro s h;cases h|eG _=>intro s h;cases h|jy a=>intro s h;rw[Yy.mp h];exact hg|two o a b=>
  intro s h;rcases Yo.mp h with h|h
  .rw[h];exact hg.1
  .rw[Yy.mp h];exact hg.2
theorem Zrz(t:Sm):t.parts.length<=2:=by cases t<;>simp[Sm.parts]
theorem ZkV:∀(n:Nat) (t:Sm),t.good->t.flat.length<=n->n<=500->∀M:Store,zm n [.tup t.flat] M= .ok (.int (t.dp:Int)) M
 |0,t,_,hl,_,M=>by rw[t.Iw,Yk]at hl;exact(lA 1 116001793 T1 hl).elim|n+1,t,hg,hl,hn,M=>by
  have hlp:=Zrz t;have ih:∀s∈t.parts,∀M,zm n [.tup s.flat] M= .ok (.int (s.dp:Int)) M:=λs hs=>ZkV n s (Zoo hg s hs) (by have:=ZsB hs;exact lC 2 563648976195601 T1 this hl) (lA 1 0x1f43b001f43ba0c01 T1 hn);obtain⟨G,k,h1,h2⟩:=Zsw M t hg (Yi hl hn);have h3:(M++G)[M.length+k]?=Ya (.lst (t.parts.map λt=>.tup t.flat)):=by rw[sY];exact h2
  refine Rt.pure (env:=[Ya (.tup t.flat),Ym]) (G:=G++[.lst ((pD 0 t.parts).map D.int)]) ?_ rfl;unfold Vd;refine(Zi (Zq (dJ rfl h1))).trans ?_;have lk:jR [(M.length+k,t.parts.map λt=>D.tup t.flat)] (M++G)=true:=by simp only[jR,kW,Qp,J0];exact decide_eq_true h3
  have lp:=VR (F:=zm n) lk (i:=2) (j:=3) (λe=>∃a b c d,e=[a,b,c,d]) (λenv ⟨a,b,c,d,e⟩ x y=>by subst e;exact⟨⟨_,_,_,_,rfl⟩,λM=>⟨rfl,rfl⟩⟩) t.parts 0 [] [Ya (.tup t.flat),Ya (.ref (M.length+k)),Ym,Ym] ⟨_,_,_,_,rfl⟩ ih (by simp;exact lA 1 0x3e83b0021b001 T1 hlp);rw[jk]at lp;rw[←gM];refine di (cC (M1:=M++G++[.lst ((pD 0 t.parts).map D.int)]) (a:=.ref (M++G).length) ?_ ?_)
  .show(R3.bind (R3.bind (R3.ok (D.ref (M.length+k)) (M++G)) _) _)=_;simp only[R3.bind,h3];exact lp
  .rw[Znq (Zo _ _ []),Zq8]
theorem Zsg{t:Sm}(hg:t.good)(hl:t.flat.length<=61)(M:Store):Hu [.tup t.flat] M= .ok (.int (t.dp:Int)) M:=by have key:∀n,t.flat.length<=n->n<=500->∀M,zm n [.tup t.flat] M= .ok (.int (t.dp:Int)) M:=λn h1 h2=>ZkV n t hg h1 h2;exact key 61 hl (by decide) M
noncomputable abbrev LET:List Nat:=[97,98,99,100,101,102,103,104,105,106,107,108,109,110,111,112,113,114,115,116,117,118,119,120,121,122]
class jz where
 nms:List (List Nat)
structure ZoS(x:List Nat):Prop where
 pos:1<=x.length
 le:x.length<=8
 own:x∉Zx
 low:∀c∈x,97<=c/\c<=122
variable [jz]
structure fZ(x:List Nat):Prop where
 pos:1<=x.length
 le:x.length<=8
 own:x∉Zx
 low:∀c∈x,97<=c/\c<=122
 inn:x∈jz.nms
theorem ZvS(h:97<=c/\c<=122):c∈LET:=(Yk2:c∈vM 97 26↔_).mpr ⟨h.1,JQ h.2⟩
theorem in_words(x:List Nat)(M:Store):mX (.str x) (.tup (Zx.map D.str)) M= .ok (.bl (decide (x∈Zx))) M:=by
 have hf:(cJ (.str x)&&(Zx.map D.str).all cJ)=true:=rfl;have he:∀l:List (List Nat),(l.map D.str).any (λy=>dh y (.str x))=decide (x∈l):=by
  intro l
  induction l with
  |nil=>rfl|cons y l ih=>
   rw[Ys,lR,ih,Td];by_cases h:y=x
   .subst h;simp
   .have h':x≠y:=λe=>h e.symm;simp[h,h']
 simp only[mX,Zww,hf,if_true,he]
variable{i:Nat}
theorem len_str(h:x.length<=1000)(hv:Za i env M= .ok (.str x) M):aC bx (Zb (Za i) (Zf)) env M= .ok (.int (x.length:Int)) M:=cC hv (by simp only[yJ,yK,yL,qT,if_pos (show x.length<=SZ from Yi h (by decide))])
noncomputable def nameB(x:List Nat):Bool:=decide (1<=x.length)&&(decide (x.length<=8)&&(!decide (x∈Zx)&&x.all λc=>decide (c∈LET)))
theorem ZkS(h:x.length<=1000)(M:Store):oE [.str x] M= .ok (.bl (nameB x)) M:=by
 have hz:x.length<=SZ:=Yi h (by decide);have ln:aC bx (Zb (Za 0) (Zf)) [Ya (.str x)] M= .ok (.int (x.length:Int)) M:=len_str h rfl;have no:∀(hb:nameB x=false),fH (e2 fQ (aC bx (Zb (Za 0) (Zf))) (eC (.int 1))) (fH (e2 cX (aC bx (Zb (Za 0) (Zf))) (rO)) (e2 mX (Za 0) (qp))) [Ya (.str x)] M= .ok (.bl true) M->oE [.str x] M= .ok (.bl (nameB x)) M:=λhb hc=>by rw[hb];refine Rt.pure (G:=[]) (env:=[Ya (.str x)]) ?_ rfl;rw[kO];unfold Mx;exact qW ((fX hc).trans (di rfl))
 by_cases h1:x.length<1
 .exact no (by simp[nameB];omega) (GX (Zh ln rfl (by rw[nY,decide_eq_true (by omega)])))
 have c1:=n6 (g:=fH (e2 cX (aC bx (Zb (Za 0) (Zf))) (rO)) (e2 mX (Za 0) (qp))) (Zh (op:=fQ) (g:=eC (.int 1)) ln rfl (by rw[nY,decide_eq_false (by exactλz=>iN [_] [] 2 455352125585 T1 z h1)]));by_cases h2:8<x.length
 .exact no (by simp[nameB];omega) (c1.trans (GX (Zh ln (g:=rO) (b:=.int 8) rfl (by rw[jP,decide_eq_true (by exact iN [_] [] 1 9353248119569 T1 h2)]))))
 have c2:=c1.trans (n6 (g:=e2 mX (Za 0) (qp)) (Zh (op:=cX) ln (g:=rO) (b:=.int 8) rfl (by rw[jP,decide_eq_false (by exactλz=>iN [_] [] 2 0x6081b510881b91 T1 z h2)])));have c3:e2 mX (Za 0) (qp) [Ya (.str x)] M= .ok (.bl (decide (x∈Zx))) M:=Zh rfl (g:=qp) (b:=.tup (Zx.map D.str)) rfl (in_words x M);by_cases h3:x∈Zx
 .exact no (by simp[nameB,h3]) (c2.trans (c3.trans (by rw[decide_eq_true h3])))
 have hb:nameB x=x.all λc=>decide (c∈LET):=by unfold nameB;rw[decide_eq_true (show 1<=x.length by exact j8 h1),decide_eq_true (show x.length<=8 by exact j8 h2),decide_eq_false h3];rfl
 rw[hb];refine Rt.pure (G:=[.lst (x.map λc=>D.bl (decide (c∈LET)))]) (env:=[Ya (.str x)]) ?_ rfl;unfold Mx;refine(Zi (cY (c2.trans (c3.trans (by rw[decide_eq_false h3]))))).trans ?_;have hi:(bZ (Za 0)) [Ya (.str x)] M= .ok ⟨x.map (λc=>D.str [c]),Ym⟩ M:=by simp only[bZ,Za,Jl,R3.bind,if_pos hz]
 have lc:=sZ (h:=λc=>D.bl (decide (c∈LET))) (own:=1) (i:=1) (elt:=(e2 mX (Za 1) (xM))) hi (λn z=>nomatch z)
  (λc hc M'=>Zh (a:=.str [c]) (b:=.str LET) rfl rfl (in_str c LET M')) (Yi h (by decide))
 exact di (cC lc (all_map (Zo _ _ _)))
theorem fZ.b(h:fZ x):nameB x=true:=by unfold nameB;rw[decide_eq_true h.pos,decide_eq_true h.le,decide_eq_false h.own,iw.mpr λc hc=>decide_eq_true (ZvS (h.low c hc))];rfl
theorem fZ.is(h:fZ x)(M:Store):oE [.str x] M= .ok (.bl true) M:=by rw[ZkS (Yi h.le (by decide)),h.b]
theorem fZ.nop(h:fZ x):pC x=false:=decide_eq_false λz=>h.own (by rcases z with rfl|rfl|rfl|rfl <;>decide)
theorem Znl(h:pC x=true):(x=[97,100,100]\/x=[115,117,98]\/x=[109,111,114,101]\/x=[99,101,108,108]):=of_decide_eq_true h
theorem Zwb(x:List Nat)(M:Store):uU pB (.str x) M= .ok (.bl (pC x)) M:=by
 show R3.ok (D.bl (dD x pB).isSome) M=_;rw[Zrn];by_cases h1:x=[97,100,100]
 .subst h1;rfl
 by_cases h2:x=[115,117,98]
 .subst h2;rfl
 by_cases h3:x=[109,111,114,101]
 .subst h3;rfl
 by_cases h4:x=oK
 .subst h4;rfl
 have:pC x=false:=decide_eq_false λz=>z.elim h1 λz=>z.elim h2 λz=>z.elim h3 h4;rw[if_neg h1,if_neg h2,if_neg h3,if_neg h4,this];rfl
theorem VV(x:List Nat)(M:Store):CK [.str x] M= .ok (.bl (pC x)) M:=(jQ (M':=M) (env:=[Ya (.str x)]) (di (dM rfl (Zwb x M)))).trans (ZkP rfl)
noncomputable def b_:D->List Nat
 | .int i=>gF i|.str x=>x|_=>[]
inductive tL:D->Prop
 |int (i:Int) (h:i.natAbs<10^60):tL (.int i)
 |eG (x:List Nat) (h:fZ x):tL (.str x)
 |op (x:List Nat) (h:pC x=true):tL (.str x)
noncomputable def Sm.fit:Sm->Prop
 | .num i=>i.natAbs<10^60|.eG x=>fZ x|.jy a=>a.fit|.two _ a b=>a.fit/\b.fit
theorem HW:∀t:Sm,t.fit->t.good
 | .num _,_=>trivial|.eG _,h=>h.nop|.jy a,h=>HW a h|.two _ a b,h=>⟨HW a h.1,HW b h.2⟩
theorem ZwE(o:Nat):pC (w6 o)=true:=by
 match o with
 |0=>rfl|1=>rfl|_+2=>rfl
theorem HX:∀(t:Sm),t.fit->∀w∈t.flat,tL w
 | .num i,h,w,hw=>by rw[Yy.mp hw];exact .int i h|.eG x,h,w,hw=>by rw[Yy.mp hw];exact .eG x h|.jy a,h,w,hw=>by
  rcases Yo.mp hw with hw|hw
  .rw[hw];exact .op _ rfl
  .exact HX a h w hw
 | .two o a b,h,w,hw=>by
  rcases Yo.mp hw with hw|hw
  .rw[hw];exact .op _ (ZwE o)
  .rcases fj.mp hw with hw|hw
   .exact HX a h.1 w hw
   .exact HX b h.2 w hw
theorem V0{i:Int}(hc:c∈gF i):c<=57:=by
 cases i with
 |ofNat n=>rw[show gF (Int.ofNat n)=cU n from Ni n]at hc;exact(w5 n c hc).2|negSucc n=>
  rw[Nj]at hc;rcases Yo.mp hc with h|h
  .exact lA 1 0x392b002d2b021 T1 h
  .exact(w5 _ c h).2
theorem V1(i:Int):∃c r,gF i=c::r:=by
 cases i with
 |ofNat n=>
  rw[show gF (Int.ofNat n)=cU n from Ni n];cases e:cU n with
  |nil=>exact absurd e (HF n)|cons c r=>exact⟨c,r,rfl⟩
 |negSucc n=>exact⟨_,_,Nj n⟩
theorem ZrN(i:Int):pC (gF i)=false:=by obtain⟨c,r,e⟩:=V1 i;have hc:c<=57:=V0 (i:=i) (by rw[e];exact Yc);refine decide_eq_false λz=>?_;rw[e]at z;rcases z with z|z|z|z<;>(have:=(je z).1;omega)
theorem Zsm(i:Int):nameB (gF i)=false:=by
 obtain⟨c,r,e⟩:=V1 i;have hc:c<=57:=V0 (i:=i) (by rw[e];exact Yc);have:decide (c∈LET)=false:=decide_eq_false λz=>by simp only[Yo,qD,or_false]at z;omega
 unfold nameB;rw[e,kW,this,Q6,yj,yj,yj]
theorem V2(h:pC x=true):1<=x.length/\x.length<=60/\∀c∈x,97<=c:=by rcases Znl h with rfl|rfl|rfl|rfl <;>decide
theorem Zwq(h:tL w)(hv:∀M,Za 3 env M= .ok (.str (b_ w)) M):
  fH (Zz CK (Zb (Za 3) (Zf))) (fH (Zz oE (Zb (Za 3) (Zf))) (Zz rE (Zb (Za 3) (Zf)))) env M= .ok (.bl true) M:=by
 cases h with
 |int i hi=>rw[n6 ((dJ (hv M) (VV _ M)).trans (by rw[show b_ (.int i)=gF i from rfl,ZrN])),n6 ((dJ (hv M) (ZkS (x:=gF i) (Yi (ZoE hi) (by decide)) M)).trans (by rw[Zsm]))];exact dJ (hv M) (Zm8 hi M)|eG x hx=>rw[n6 ((dJ (hv M) (VV _ M)).trans (by rw[show b_ (.str x)=x from rfl,hx.nop]))];exact GX (dJ (hv M) (hx.is M))|op x hx=>exact GX ((dJ (hv M) (VV _ M)).trans (by rw[show b_ (.str x)=x from rfl,hx]))
theorem Zvy(h:tL w)(hv:∀M,Za 3 env M= .ok (.str (b_ w)) M):
  kh (Zz rE (Zb (Za 3) (Zf))) (aC uK (Zb (Za 3) (Zf))) (Za 3) env M= .ok w M:=by
 cases h with
 |int i hi=>rw[BZ (dJ (hv M) (Zm8 hi M))];have r:=VH i hi;refine cC (hv M) ?_;show uK [.str (gF i)] M=_;simp only[uK,r.1];exact if_pos (Yi r.2.1 (by decide))|eG x hx=>rw[B_ (dJ (hv M) (ZmF hx.pos (Yi hx.le (by decide)) (λc hc=>(hx.low c hc).1) M))];exact hv M|op x hx=>have q:=V2 hx;rw[B_ (dJ (hv M) (ZmF q.1 q.2.1 q.2.2 M))];exact hv M
structure ZrW(ts:List Sm):Prop where
 fit:∀t∈ts,t.fit
 len:(ts.map Sm.flat).flatten.length<=60
 dep:wU 0 (pD 0 ts)<=6
noncomputable abbrev bQ(ts:List Sm):List D:=(ts.map Sm.flat).flatten
variable{ts:List Sm}
theorem HY(h:∀t∈ts,t.fit):∀w∈bQ ts,tL w:=λw hw=>by obtain⟨l,h1,h2⟩:=Ql.mp hw;obtain⟨t,ht,rfl⟩:=dZ.mp h1;exact HX t (h t ht) w h2
theorem Nq{t:Sm}(h:t∈ts):t.flat.length<=(bQ ts).length:=by
 induction ts with
 |nil=>cases h|cons a ts ih=>
  rw[bQ,Ys,kJ,Yf];rcases Yo.mp h with e|e
  .rw[e];exact jd _ _
  .have:=ih e;rw[bQ]at this;exact lC 1 5033168897 T1 this
theorem Nr(ts:List Sm):ts.length<=(bQ ts).length:=by
 induction ts with
 |nil=>exact Yt _|cons t l ih=>rw[bQ,Ys,kJ,Yf,Yk];obtain⟨w,r,e⟩:=VL t;rw[e,Yk];rw[bQ]at ih;exact lC 1 460474730680321 T1 ih
theorem Zma(H:ZrW ts)(hn:M[n]?=Ya (.lst ((bQ ts).map λw=>D.str (b_ w)))):∃G k,MF [.ref n] M= .ok (.ref (M.length+k)) (M++G)/\G[k]?=Ya (.lst (ts.map λt=>.tup t.flat)):=by
 have hfit:=HY H.fit;have hz:(bQ ts).length<=100000:=Yi H.len (by decide)
 let M1:=M++[MO.lst ((bQ ts).map λ_=>D.bl true)]
 let M2:=M1++[MO.lst ((bQ ts).map λw=>w)]
 have hn1:M1[n]?=Ya (.lst ((bQ ts).map λw=>D.str (b_ w))):=bL hn _;have hi:∀{S:Store} (_:S[n]?=Ya (.lst ((bQ ts).map λw=>D.str (b_ w)))),(bZ (Za 0)) [Ya (.ref n),Ym,Ym] S= .ok ⟨(bQ ts).map (λw=>D.str (b_ w)),Ya n⟩ S:=λh=>by show(R3.ok (D.ref n) _).bind _=_;simp only[R3.bind];rw[h]
 have l1:=sZ (h:=λ_=>D.bl true) (own:=1) (i:=3) (elt:=fH (Zz CK (Zb (Za 3) (Zf))) (fH (Zz oE (Zb (Za 3) (Zf))) (Zz rE (Zb (Za 3) (Zf))))) (hi hn) (λm e=>by cases e;exact hn)
  (λw hw M'=>Zwq (hfit w hw) λ_=>rfl) hz
 have l2:=sZ (h:=λw=>w) (own:=1) (i:=3) (elt:=kh (Zz rE (Zb (Za 3) (Zf))) (aC uK (Zb (Za 3) (Zf))) (Za 3)) (hi hn1) (λm e=>by cases e;exact hn1)
  (λw hw M'=>Zvy (hfit w hw) λ_=>rfl) hz
 have qw:M2[M1.length]?=Ya (.lst (bQ ts)):=(Zo M1 (MO.lst ((bQ ts).map λw=>w)) []).trans (by rw[Qq]);obtain⟨G,k,h1,h2⟩:=Zm4 M2 ts (λt ht=>HW t (H.fit t ht)) (Yi H.len (by decide)) qw;have h3:(M2++G)[M2.length+k]?=Ya (.lst (ts.map λt=>.tup t.flat)):=by rw[sY];exact h2
 have lk:jR [(M2.length+k,ts.map λt=>D.tup t.flat)] (M2++G)=true:=by simp only[jR,kW,Qp,J0];exact decide_eq_true h3
 have hfew:=Nr ts;have X4:(bQ ts).length<=60:=H.len;have lp:=VR (F:=Hu) lk (i:=3) (j:=4) (λe=>∃a b c d f,e=[a,b,c,d,f]) (λenv ⟨a,b,c,d,f,e⟩ x y=>by subst e;exact⟨⟨_,_,_,_,_,rfl⟩,λM=>⟨rfl,rfl⟩⟩) ts 0 [] [Ya (.ref n),Ya (.ref (M2.length+k)),Ym,Ym,Ym] ⟨_,_,_,_,_,rfl⟩ (λt ht M=>Zsg (HW t (H.fit t ht)) (by have:=Nq ht;exact lB 2 0x3d2b003c2b1011001 T1 this X4) M) (by simp;exact lB 2 0x3e83b1001013c2b001 T1 X4 hfew);rw[jk]at lp;refine⟨[MO.lst ((bQ ts).map λ_=>D.bl true),MO.lst ((bQ ts).map λw=>w)]++G++[.lst ((pD 0 ts).map D.int)],2+k,?_,?_⟩
 .have hlen:M2.length=M.length+2:=by simp[M2,M1]
  refine(jQ (M':=M2++G++[.lst ((pD 0 ts).map D.int)]) (d:=.ref (M2.length+k)) (env:=[Ya (.ref n),Ym,Ym]) ?_).trans ?_
  .unfold Vf;have t1:=all_map (p:=λ_=>true) (l:=bQ ts) (Zo M (MO.lst ((bQ ts).map λ_=>D.bl true)) []);rw[show((bQ ts).all λ_=>true)=true from iw.mpr λ_ _=>rfl]at t1;refine(Zi (cY (M':=M1) (dM (cC l1 t1) rfl))).trans ?_;refine(Zi (Zq (d:=.ref (M2.length+k)) (M':=M2++G) (dJ l2 h1))).trans ?_;refine(Zi (cY (M':=M2++G) (Zh rfl rfl rfl))).trans ?_;refine(Zi (Zq (d:=.ref (M2++G).length) (M':=M2++G++[.lst ((pD 0 ts).map D.int)]) ?_)).trans ?_
   .show(R3.bind (R3.bind (R3.ok (D.ref (M2.length+k)) (M2++G)) _) _)=_;simp only[R3.bind,h3];exact lp
   .refine di ((BZ (M1:=M2++G++[.lst ((pD 0 ts).map D.int)]) (Zh (cC rfl (Znq (Zo (M2++G) _ []))) (g:=xJ) (b:=.int 6) rfl (Lh H.dep))).trans rfl)
  .have hb:below M.length (.ref (M2.length+k))=false:=by show decide (M2.length+k<M.length)=false;rw[hlen];exact decide_eq_false (λz=>lB 1 6601929968657 T1 z)
   rw[eV,hb,hlen,qI];simp[M2,M1]
 .rw[gM,mH 2 k];show(G++[MO.lst ((pD 0 ts).map D.int)])[k]?=_;exact bL h2 _
noncomputable abbrev jh:List Nat:=[115,101,116]
noncomputable abbrev oM:List Nat:=[112,117,116]
noncomputable abbrev oN:List Nat:=[116,101,108,108]
noncomputable abbrev cD:List Nat:=[119,104,101,110]
noncomputable abbrev fP:List Nat:=[119,104,105,108,101]
noncomputable abbrev eZ:List Nat:=[101,108,115,101]
noncomputable abbrev eO:List Nat:=[101,110,100]
structure Rw where
 h:List Nat
 xs:List (List Nat)
 ts:List Sm
noncomputable def Rw.words(r:Rw):List (List Nat):=r.h::(r.xs++(bQ r.ts).map b_)
noncomputable def Rw.deed(r:Rw):List D:=.str r.h::(r.xs.map D.str++r.ts.map λt=>D.tup t.flat)
structure cQ(r:Rw):Prop where
 sm:dD r.h jY=Ya (r.ts.length:Int)
 nx:r.xs.length=if r.h=jh then 1 else 0
 nm:∀x∈r.xs,fZ x
 ok:ZrW r.ts
 le:r.xs.length+(bQ r.ts).length<=59
theorem H_{o:E3}{lo hi:yH}{a b:Option Int}(ho:o env M= .ok (.ref n) M)(hl:lo env M= .ok a M)(hh:hi env M= .ok b M)(h:M[n]?=Ya (.lst ds)):eU o lo hi env M= .ok (.ref M.length) (M++[.lst (cutD ds a b)]):=by simp only[eU,ho,hl,hh,R3.bind,BK,h];rfl
theorem Zte(a:α)(x y:List α):cutD (a::(x++y)) (Ya ((1:Nat):Int)) (Ya ((1+x.length:Nat):Int))=x:=by unfold cutD;rw[Gq,Gq,Fy (show 1+x.length<=(a::(x++y)).length by simp only[Yk,Yf];exact lB 0 43231480512 T1),Fy (show 1<=(a::(x++y)).length by simp),Nat.add_sub_cancel_left];simp
variable{m:Nat}{y:List D}
theorem Ia{x:List D}(h1:M[n]?=Ya (.lst x))(h2:M[m]?=Ya (.lst y))(hz:x.length+y.length<=900000):aN (.ref n) (.ref m) M= .ok (.ref M.length) (M++[.lst (x++y)]):=by rw[ZsG,h1,h2];exact if_pos (Yi hz (by decide))
theorem Zo8{n:Nat}:∀{l:List D},(∀w∈l,mD w)->cj n l=true
 |[],_=>rfl|w::l,h=>by
  have h1:below n w=true:=by cases h w Yc<;>rfl
  show(below n w&&cj n l)=true;rw[h1,Zo8 λx hx=>h x (Yd _ hx)];rfl
theorem ZjX{n:Nat}:∀{x y:List D},cj n x=true->cj n y=true->cj n (x++y)=true
 |[],_,_,h=>h|a::x,y,h,k=>by have h:(below n a&&cj n x)=true:=h;rw[Y6]at h;show(below n a&&cj n (x++y))=true;rw[h.1,ZjX h.2 k];rfl
theorem Zje{n:Nat}:∀ts:List Sm,cj n (ts.map λt=>D.tup t.flat)=true
 |[]=>rfl|t::ts=>by show(cj n t.flat&&cj n (ts.map λt=>D.tup t.flat))=true;rw[Zo8 (Eb t),Zje ts];rfl
theorem Ed{n:Nat}:∀xs:List (List Nat),cj n (xs.map D.str)=true
 |[]=>rfl|_::xs=>Ed xs
theorem Rw.below{n:Nat}(r:Rw):below n (.tup r.deed)=true:=by show cj n (.str r.h::(r.xs.map D.str++r.ts.map λt=>D.tup t.flat))=true;show cj n (r.xs.map D.str++r.ts.map λt=>D.tup t.flat)=true;exact ZjX (Ed _) (Zje _)
variable{r:Rw}
theorem Zl8(H:cQ r)(hn:M[n]?=Ya (.lst (r.words.map D.str))):Hv [.ref n] M= .ok (.tup r.deed) M:=by
 have hlen:r.words.length=1+r.xs.length+(bQ r.ts).length:=by simp only[Rw.words,Yk,Yf,Yu];exact Y1 (lB 0 1145894407360 T1) (lB 0 0xa10cc10acc0 T1)
 have hle:=H.le;have e0:∀{S:Store} {a b:Option D},S[n]?=Ya (.lst (r.words.map D.str))->e2 Zn (Za 0) (eC (.int 0)) [Ya (.ref n),a,b] S= .ok (.str r.h) S:=λh=>Zh rfl rfl (iY h (gn _ 0))
 let B:Int:=((1+r.xs.length:Nat):Int)
 have hB:kh (e2 bh (e2 Zn (Za 0) (eC (.int 0))) (eC (.str [115,101,116]))) (eC (.int 2)) (eC (.int 1)) [Ya (.ref n),Ym,Ym] M= .ok (.int B) M:=by
  by_cases h:r.h=jh
  .have e:B=2:=by show((1+r.xs.length:Nat):Int)=2;rw[H.nx,if_pos h];rfl
   rw[BZ (M1:=M) (Zh (e0 hn) rfl (by simp only[bh,wC,decide_eq_true h])),e];rfl
  .have e:B=1:=by show((1+r.xs.length:Nat):Int)=1;rw[H.nx,if_neg h];rfl
   rw[B_ (M1:=M) (Zh (e0 hn) rfl (by simp only[bh,wC,decide_eq_false h])),e];rfl
 let M1:=M++[MO.lst (r.xs.map D.str)]
 let M2:=M1++[MO.lst (r.xs.map λ_=>D.bl true)]
 let M3:=M2++[MO.lst ((bQ r.ts).map λw=>D.str (b_ w))]
 have hn2:M2[n]?=Ya (.lst (r.words.map D.str)):=bL (bL hn _) _;have ew:r.words.map D.str=D.str r.h::(r.xs.map D.str++(bQ r.ts).map λw=>D.str (b_ w)):=by show D.str r.h::(r.xs++(bQ r.ts).map b_).map D.str=_;rw[jl,jH];rfl
 have hx:(r.xs.map D.str).length=r.xs.length:=Yu _;have c1:cutD (r.words.map D.str) (Ya ((1:Nat):Int)) (Ya B)=r.xs.map D.str:=by have:=Zte (D.str r.h) (r.xs.map D.str) ((bQ r.ts).map λw=>D.str (b_ w));rw[hx]at this;rw[ew];exact this
 have c2:cutD (r.words.map D.str) (Ya B) Ym=(bQ r.ts).map λw=>D.str (b_ w):=by rw[Ea,ew,mH,List.drop_succ_cons,←hx,List.drop_left]
 have c3:cutD (r.words.map D.str) Ym (Ya B)=D.str r.h::r.xs.map D.str:=by rw[Zrk,ew,mH,Yjz,←hx,List.take_left]
 have s1:bZ (eU (Za 0) (dG (eC (.int 1))) (dG (Za 1))) [Ya (.ref n),Ya (.int B),Ym] M= .ok ⟨r.xs.map D.str,Ya M.length⟩ M1:=by have:=H_ (env:=[Ya (.ref n),Ya (.int B),Ym]) (o:=Za 0) (lo:=dG (eC (.int 1))) (hi:=dG (Za 1)) (a:=Ya ((1:Nat):Int)) (b:=Ya B) rfl rfl rfl hn;rw[c1]at this;show(eU _ _ _ _ _).bind _=_;rw[this];simp only[R3.bind,Zo];rfl
 have l1:=sZ (h:=λ_=>D.bl true) (own:=1) (i:=3) (elt:=Zz oE (Zb (Za 3) (Zf))) s1 (λm e=>by cases e;exact Zo M _ [])
  (λx hx M'=>dJ rfl ((H.nm x hx).is M')) (lB 1 0x186a05b003b2b10c01 T1 hle)
 have t1:=all_map (p:=λ_=>true) (l:=r.xs) (Zo M1 (MO.lst (r.xs.map λ_=>D.bl true)) []);rw[show(r.xs.all λ_=>true)=true from iw.mpr λ_ _=>rfl]at t1;have s2:eU (Za 0) (dG (Za 1)) (fV) [Ya (.ref n),Ya (.int B),Ym] M2= .ok (.ref M2.length) M3:=by have:=H_ (env:=[Ya (.ref n),Ya (.int B),Ym]) (o:=Za 0) (lo:=dG (Za 1)) (hi:=fV) (a:=Ya B) (b:=Ym) rfl rfl rfl hn2;rw[c2]at this;exact this
 obtain⟨G,k,h1,h2⟩:=Zma H.ok (n:=M2.length) (M:=M3) (Zo M2 _ [])
 let M4:=M3++G
 have hk:M4[M3.length+k]?=Ya (.lst (r.ts.map λt=>.tup t.flat)):=by show(M3++G)[_]?=_;rw[sY];exact h2
 have hn4:M4[n]?=Ya (.lst (r.words.map D.str)):=bL (bL hn2 _) _
 let M5:=M4++[MO.lst (D.str r.h::r.xs.map D.str)]
 let M6:=M5++[MO.lst r.deed]
 have s3:eU (Za 0) (fV) (dG (Za 1)) [Ya (.ref n),Ya (.int B),Ya (.ref (M3.length+k))] M4= .ok (.ref M4.length) M5:=by have:=H_ (env:=[Ya (.ref n),Ya (.int B),Ya (.ref (M3.length+k))]) (o:=Za 0) (lo:=fV) (hi:=dG (Za 1)) (a:=Ym) (b:=Ya B) rfl rfl rfl hn4;rw[c3]at this;exact this
 have hfew:=Nr r.ts;have s4:e2 aN (eU (Za 0) (fV) (dG (Za 1))) (Za 2) [Ya (.ref n),Ya (.int B),Ya (.ref (M3.length+k))] M4= .ok (.ref M5.length) M6:=Zh s3 rfl (Ia (Zo M4 _ []) (bL hk _) (by simp;exact lC 2 0xdbba05b0a2cc03b2b12c011001 T1 hfew hle));have hM6:M6=M++([MO.lst (r.xs.map D.str),MO.lst (r.xs.map λ_=>D.bl true),MO.lst ((bQ r.ts).map λw=>D.str (b_ w))]++G++[MO.lst (D.str r.h::r.xs.map D.str),MO.lst r.deed]):=by simp[M6,M5,M4,M3,M2,M1]
 refine Rt.pure (G:=[MO.lst (r.xs.map D.str),MO.lst (r.xs.map λ_=>D.bl true),MO.lst ((bQ r.ts).map λw=>D.str (b_ w))]++G++[MO.lst (D.str r.h::r.xs.map D.str),MO.lst r.deed]) (env:=[Ya (.ref n),Ym,Ym]) ?_ r.below;rw[←hM6];unfold Vg;have q1:e1 (Mt jY) (e2 Zn (Za 0) (eC (.int 0))) [Ya (.ref n),Ym,Ym] M= .ok (.bl false) M:=dM (e0 hn) (by show R3.ok (D.bl (!(dD r.h jY).isSome)) M=_;rw[H.sm];rfl);have q2:e2 cX (aC bx (Zb (Za 0) (Zf))) (vy) [Ya (.ref n),Ym,Ym] M= .ok (.bl false) M:=Zh (cC rfl (m5 hn)) (g:=vy) (b:=.int 60) rfl (by rw[jP,decide_eq_false (by rw[Yu,hlen];exactλz=>iN [_,_] [] 2 0x63b2b10c0110acc83c2b91 T1 z hle)]);refine(Zi (cY ((n6 q1).trans q2))).trans ?_;refine(Zi (Zq hB)).trans ?_;refine(Zi (cY (M':=M2) (dM (cC l1 t1) rfl))).trans ?_;refine(Zi (Zq (d:=.ref (M3.length+k)) (M':=M4) (dJ s2 h1))).trans ?_;have q3:e2 fU (aC bx (Zb (Za 2) (Zf))) (e1 (Hr jY) (e2 Zn (Za 0) (eC (.int 0)))) [Ya (.ref n),Ya (.int B),Ya (.ref (M3.length+k))] M4= .ok (.bl false) M4:=by
  refine Zh (M2:=M4) (cC rfl (m5 hk)) (dM (M2:=M4) (e0 hn4) (d:=.int (r.ts.length:Int)) ?_) ?_
  .simp only[Hr,H.sm]
  .simp only[fU,yG,Yu,decide_eq_true (rfl:(r.ts.length:Int)=r.ts.length)];rfl
 refine(Zi (cY ((n6 (M1:=M4) (Zh rfl rfl rfl)).trans q3))).trans ?_;exact di (cC s4 (nZ (Zo M5 _ [])))
noncomputable abbrev iZ:List Nat:=[66,108,111,99,107]
noncomputable abbrev oO:List Nat:=[104,101,97,100]
noncomputable abbrev u6:List Nat:=[108,105,115,116,115]
structure Bk where
 r:Nat
 l:Nat
 h:List Nat
 hd:List D
 cl:List (Nat×List D)
 cn:Nat
 cur:List D
noncomputable def Bk.ads(k:Bk):List Nat:=k.r::k.l::k.cn::k.cl.map (·.1)
structure qx(S:Store)(k:Bk):Prop where
 hr:S[k.r]?=Ya (.ins iZ [(oO,.tup (.str k.h::k.hd)),(u6,.ref k.l)])
 hl:S[k.l]?=Ya (.lst ((k.cl.map λp=>D.ref p.1)++[.ref k.cn]))
 hc:∀p∈k.cl,S[p.1]?=Ya (.lst p.2)
 hn:S[k.cn]?=Ya (.lst k.cur)
variable{S S':Store}
theorem qx.congr{k:Bk}(H:qx S k)(h:∀a∈k.ads,S'[a]?=S[a]?):qx S' k:=⟨by rw[h _ (by simp[Bk.ads])];exact H.hr,by rw[h _ (by simp[Bk.ads])];exact H.hl,λp hp=>by rw[h _ (by simp only[Bk.ads];exact Yd _ (Yd _ (Yd _ (qC hp))))];exact H.hc p hp,by rw[h _ (by simp[Bk.ads])];exact H.hn⟩
noncomputable abbrev ig(ks:List Bk):List Nat:=ks.flatMap Bk.ads
structure cZ(S:Store)(b:Nat)(ks:List Bk):Prop where
 hb:S[b]?=Ya (.lst (ks.map λk=>D.ref k.r).reverse)
 hk:∀k∈ks,qx S k
 nb:b∉ig ks
 nd:(ig ks).Nodup
theorem qx.lt{k:Bk}(H:qx S k):∀a∈k.ads,a<S.length:=λa ha=>by
 have q:∀{i:Nat} {o:MO},S[i]?=Ya o->i<S.length:=λh=>(Ye.mp h).1;simp only[Bk.ads,Yo,dZ]at ha;rcases ha with rfl|rfl|rfl|⟨p,hp,rfl⟩
 .exact q H.hr
 .exact q H.hl
 .exact q H.hn
 .exact q (H.hc p hp)
variable{ks:List Bk}
theorem cZ.lt{b:Nat}(H:cZ S b ks):∀a∈ig ks,a<S.length:=λa ha=>by obtain⟨k,hk,h⟩:=vK.mp ha;exact(H.hk k hk).lt a h
theorem cZ.zG{b:Nat}(H:cZ S b ks):b<S.length:=(Ye.mp H.hb).1
theorem cZ.frame{b:Nat}(H:cZ S b ks)(h:∀a∈b::ig ks,S'[a]?=S[a]?):cZ S' b ks:=⟨by rw[h b Yc];exact H.hb,λk hk=>(H.hk k hk).congr λa ha=>h a (Yd _ (vK.mpr ⟨k,hk,ha⟩)),H.nb,H.nd⟩
theorem cZ.app{b:Nat}(H:cZ S b ks)(G:Store):cZ (S++G) b ks:=
 H.frame λa ha=>Yj (by
  rcases Yo.mp ha with e|e
  .rw[e];exact H.zG
  .exact H.lt a e)
theorem rF(k:Bk)(ks:List Bk):ig (k::ks)=k.ads++ig ks:=rfl
theorem cZ.rest{b:Nat}{k:Bk}(H:cZ S b (k::ks)):(∀j∈ks,qx S j)/\b∉k.ads/\b∉ig ks/\k.ads.Nodup/\(ig ks).Nodup/\∀a∈k.ads,a∉ig ks:=by have nb:=H.nb;have nd:=H.nd;rw[rF]at nb nd;rw[fj]at nb;obtain⟨n1,n2,n3⟩:=Ag.mp nd;exact⟨λj hj=>H.hk j (Yd _ hj),λz=>nb (.inl z),λz=>nb (.inr z),n1,n2,λa ha hb=>n3 a ha a hb rfl⟩
theorem cZ.more{b:Nat}{k:Bk}(H:cZ S b (k::ks))(d:D):cZ (S.set k.cn (.lst (k.cur++[d]))) b ({k with cur:=k.cur++[d]}::ks):=by
 obtain⟨h1,h2,h3,h4,h5,h6⟩:=H.rest;have hk:=H.hk k Yc;have hcn:k.cn∈k.ads:=by simp[Bk.ads]
 have zH:k.r≠k.cn/\k.l≠k.cn/\k.cn∉k.cl.map (·.1):=by simp only[Bk.ads,iR,Yo,not_or]at h4;exact⟨h4.1.2.1,h4.2.1.1,h4.2.2.1⟩
 have o:∀a,a≠k.cn->(S.set k.cn (.lst (k.cur++[d])))[a]?=S[a]?:=λa ha=>Yp (dw ha);refine⟨?_,?_,H.nb,H.nd⟩
 .rw[o b λe=>h2 (e▸hcn)];exact H.hb
 .intro j hj;rcases Yo.mp hj with e|e
  .rw[e];refine⟨by rw[o _ zH.1];exact hk.hr,by rw[o _ zH.2.1];exact hk.hl,λp hp=>by rw[o _ λe=>zH.2.2 (e▸qC hp)];exact hk.hc p hp,?_⟩;exact Yw (Ye.mp hk.hn).1
  .exact(h1 j e).congr λa ha=>o a λz=>h6 k.cn hcn (vK.mpr ⟨j,e,z▸ha⟩)
theorem cZ.els{b:Nat}{k:Bk}(H:cZ S b (k::ks)):cZ ((S++[MO.lst []]).set k.l (MO.lst ((k.cl.map λp=>D.ref p.1)++[D.ref k.cn]++[D.ref S.length]))) b ({k with cl:=k.cl++[(k.cn,k.cur)],cn:=S.length,cur:=[]}::ks):=by
 obtain⟨h1,h2,h3,h4,h5,h6⟩:=H.rest;have hk:=H.hk k Yc;have hl:k.l∈k.ads:=by simp[Bk.ads]
 have zH:k.r≠k.l/\k.cn≠k.l/\k.l∉k.cl.map (·.1):=by simp only[Bk.ads,iR,Yo,not_or]at h4;exact⟨h4.1.1,dw h4.2.1.1,h4.2.1.2⟩
 have o:∀a,a≠k.l->a<S.length->((S++[MO.lst []]).set k.l (MO.lst ((k.cl.map λp=>D.ref p.1)++[D.ref k.cn]++[D.ref S.length])))[a]?=S[a]?:=λa ha hlt=>by rw[Yp (dw ha),Yj hlt]
 have hsz:∀a∈k.ads,a<S.length:=hk.lt;have hll:k.l<S.length:=hsz _ hl;have fresh:S.length∉ig (k::ks):=λz=>v6 _ (H.lt _ z);have perm:(ig ({k with cl:=k.cl++[(k.cn,k.cur)],cn:=S.length,cur:=[]}::ks)).Perm (S.length::ig (k::ks)):=by rw[rF,rF];refine List.Perm.append_right (ig ks) (l₂:=S.length::k.ads) ?_;simp only[Bk.ads,jl,Ys,uc];have p1:(k.r::k.l::S.length::(k.cl.map (·.1)++[k.cn])).Perm (k.r::S.length::k.l::(k.cl.map (·.1)++[k.cn])):=List.Perm.cons _ (List.Perm.swap _ _ _);refine p1.trans ((List.Perm.swap _ _ _).trans (List.Perm.cons _ (List.Perm.cons _ (List.Perm.cons _ ?_))));exact List.perm_append_comm
 refine⟨?_,?_,?_,?_⟩
 .rw[o b (λe=>h2 (e▸hl)) H.zG];exact H.hb
 .intro j hj;rcases Yo.mp hj with e|e
  .rw[e];refine⟨by rw[o _ zH.1 (hsz _ (by simp[Bk.ads]))];exact hk.hr,?_,?_,?_⟩
   .rw[Yw (by rw[Yf];exact Fx _ hll)];simp
   .intro p hp;rcases fj.mp hp with q|q
    .rw[o _ (λe=>zH.2.2 (e▸qC q)) (hsz _ (by simp only[Bk.ads];exact Yd _ (Yd _ (Yd _ (qC q)))))];exact hk.hc p q
    .rw[Yy.mp q,o _ zH.2.1 (hsz _ (by simp[Bk.ads]))];exact hk.hn
   .show _[S.length]?=_;rw[Yp (by exactλz=>lB 2 26039357489 T1 z hll)];exact Zo _ _ _
  .exact(h1 j e).congr λa ha=>o a (λz=>h6 k.l hl (vK.mpr ⟨j,e,z▸ha⟩)) (H.lt a (vK.mpr ⟨j,Yd _ e,ha⟩))
 .intro z;rcases Yo.mp (perm.mem_iff.mp z)with e|e
  .have:=H.zG;exact lB 2 26041454609 T1 this e
  .exact H.nb e
 .exact perm.nodup_iff.mpr (iR.mpr ⟨fresh,H.nd⟩)
noncomputable abbrev Nt(n:Nat)(h:List Nat)(hd:List D):Bk:=⟨n,n+2,h,hd,[],n+1,[]⟩
noncomputable abbrev nObj(n:Nat)(h:List Nat)(hd:List D):Store:=[.ins iZ [(oO,.tup (.str h::hd)),(u6,.ref (n+2))],.lst [],.lst [.ref (n+1)]]
theorem cZ.push{b:Nat}(H:cZ S b ks)(h:List Nat)(hd:List D):cZ ((S++nObj S.length h hd).set b (.lst ((ks.map λk=>D.ref k.r).reverse++[.ref S.length]))) b (Nt S.length h hd::ks):=by
 have hb:=H.zG;have o:∀a,a≠b->a<S.length->((S++nObj S.length h hd).set b (.lst ((ks.map λk=>D.ref k.r).reverse++[.ref S.length])))[a]?=S[a]?:=λa ha hlt=>by rw[Yp (dw ha),Yj hlt]
 have n:∀j,((S++nObj S.length h hd).set b (.lst ((ks.map λk=>D.ref k.r).reverse++[.ref S.length])))[S.length+j]?=(nObj S.length h hd)[j]?:=λj=>by rw[Yp (by exactλz=>lC 2 6666076667953 T1 z hb),sY]
 refine⟨?_,?_,?_,?_⟩
 .rw[Yw (by rw[Yf];exact Fx _ hb)];simp
 .intro j hj;rcases Yo.mp hj with e|e
  .rw[e];exact⟨(n 0).trans rfl,(n 2).trans rfl,(λp hp=>nomatch hp),(n 1).trans rfl⟩
  .exact(H.hk j e).congr λa ha=>o a (λz=>H.nb (vK.mpr ⟨j,e,z▸ha⟩)) (H.lt a (vK.mpr ⟨j,e,ha⟩))
 .rw[rF];intro z;rcases fj.mp z with z|z
  .simp[Bk.ads]at z;omega
  .exact H.nb z
 .rw[rF];refine Ag.mpr ⟨by simp[Bk.ads],H.nd,λa ha c hc e=>?_⟩;have:=H.lt c hc;simp[Bk.ads]at ha;omega
theorem cZ.pop{b:Nat}{k:Bk}(H:cZ S b (k::ks)):cZ (S.set b (.lst (ks.map λk=>D.ref k.r).reverse)) b ks:=by obtain⟨h1,h2,h3,h4,h5,h6⟩:=H.rest;exact⟨Yw H.zG,λj hj=>(h1 j hj).congr λa ha=>Yp λ(e:b=a)=>h3 (vK.mpr ⟨j,hj,by rw[e];exact ha⟩),h3,h5⟩
theorem Nu{d:D}(hv:Za i env M= .ok (.ref n) M)(h:M[n]?=Ya (.lst (xs++[d]))):aG bj pY (Za i) (Zf) env M= .ok d (M.set n (.lst xs)):=by simp only[aG,hv,R3.bind,yN,h,Zf,if_true];rw[Tv,h];simp
theorem ZrZ{c f:List Nat}{fs:List (List Nat×D)}{d:D}(h:M[n]?=Ya (.ins c fs))(hf:fs.lookup f=Ya d):jU c f (.ref n) M= .ok d M:=by rw[Zno,h];simp only[if_true,hf]
theorem qx.head{k:Bk}(H:qx S k):jU iZ oO (.ref k.r) S= .ok (.tup (.str k.h::k.hd)) S:=ZrZ H.hr rfl
theorem qx.lists{k:Bk}(H:qx S k):jU iZ u6 (.ref k.r) S= .ok (.ref k.l) S:=ZrZ H.hr rfl
theorem cZ.last{b:Nat}{k:Bk}(H:cZ S b (k::ks))(hv:Za i env S= .ok (.ref b) S):e2 Zn (Za i) (e1 cL (eC (.int 1))) env S= .ok (.ref k.r) S:=by refine Zh hv (dM rfl (yF 1)) (iY H.hb ?_);rw[Ys,vJ];exact getD_last _ _
noncomputable def tM(h:List Nat):Int:=(dD h oA).getD 0
noncomputable def Bk.full(k:Bk):Bool:=decide (tM k.h=((k.cl.length+1:Nat):Int))
noncomputable def kE(w:List Nat):Bool:=(dD w oA).isSome
noncomputable def V3(k:Bk)(n:Nat)(w:List Nat):Bool:=if kE w then decide (n<=12)else if w=eZ then decide (k.h=cD)&&!k.full else if w=eO then k.full else true
theorem iz{a b:List Nat}:bh (.str a) (.str b) M= .ok (.bl (decide (a=b))) M:=by simp only[bh,wC]
theorem ZlA{b:Nat}{k:Bk}(H:cZ S b (k::ks))(w:List Nat):CN [.ref b,.str w] S= .ok (.bl (V3 k (ks.length+1) w)) S:=by
 have hk:=H.hk k Yc;refine(jQ (M':=S) (env:=[Ya (.ref b),Ya (.str w),Ym,Ym]) ?_).trans (ZkP rfl);unfold Vh;refine(Zi (Zq (H.last rfl))).trans ?_;have h0:∀{a:Option D},e2 Zn (e1 (jU iZ oO) (Za 2)) (eC (.int 0)) [Ya (.ref b),Ya (.str w),Ya (.ref k.r),a] S= .ok (.str k.h) S:=Zh (dM rfl hk.head) rfl (yO (gn _ 0));have Abp:e2 bh (e2 (uM oA) (e2 Zn (e1 (jU iZ oO) (Za 2)) (eC (.int 0))) (eC (.int 0))) (aC bx (Zb (e1 (jU iZ u6) (Za 2)) (Zf))) [Ya (.ref b),Ya (.str w),Ya (.ref k.r),Ym] S= .ok (.bl k.full) S:=by
  refine Zh (Zh h0 rfl (d:=.int (tM k.h)) (M3:=S) ?_) (cC (dM rfl hk.lists) (m5 hk.hl)) ?_
  .show(match dD k.h oA with|some i=>R3.ok (D.int i) S|none=>R3.ok (D.int 0) S)=_
   unfold tM;cases dD k.h oA<;>rfl
  .simp only[bh,yG,Yf,Yu,jj];rfl
 refine(Zi (Zq Abp)).trans ?_;have hin:e1 (uU oA) (Za 1) [Ya (.ref b),Ya (.str w),Ya (.ref k.r),Ya (.bl k.full)] S= .ok (.bl (kE w)) S:=dM rfl rfl;unfold V3;by_cases h1:kE w=true
 .rw[if_pos h1];rw[h1]at hin;refine qW ((fX hin).trans (di (Zh (cC rfl (m5 H.hb)) (g:=xH) (b:=.int 12) rfl ?_)));rw[Tj];congr 3;simp only[Ff,Yu,Yk];exact propext ⟨λz=>iN [_] [] 1 0xc1ba0c0c1ba0c881 T1 z,λz=>iN [_] [] 1 0xc1ba0c88c1ba0c01 T1 z⟩
 rw[if_neg h1];rw[Ylt]at h1;rw[h1]at hin;refine(Zi (cY hin)).trans ?_;by_cases h2:w=eZ
 .rw[if_pos h2];refine qW ((fX (M':=S) (Zh rfl rfl (iz.trans (by rw[decide_eq_true h2])))).trans (di ?_));by_cases h3:k.h=cD
  .rw[h_ (M1:=S) (Zh h0 rfl (iz.trans (by rw[decide_eq_true h3]))),decide_eq_true h3];rfl
  .rw[lX (M1:=S) (Zh h0 rfl (iz.trans (by rw[decide_eq_false h3]))),decide_eq_false h3];rfl
 rw[if_neg h2];refine(Zi (cY (M':=S) (Zh rfl rfl (iz.trans (by rw[decide_eq_false h2]))))).trans ?_;by_cases h3:w=eO
 .rw[if_pos h3];exact qW ((fX (M':=S) (Zh rfl rfl (iz.trans (by rw[decide_eq_true h3])))).trans (di rfl))
 .rw[if_neg h3];exact(Zi (cY (M':=S) (Zh rfl rfl (iz.trans (by rw[decide_eq_false h3]))))).trans (di rfl)
variable{o:MO}{j:Nat}
theorem V4{d:D}(hj:j<M.length)(ho:M'[j]?=Ya o)(hb:wD M.length o=false)(hne:M[j]?≠Ya o):eV M d M'= .ok d M':=by
 have ht:(M'.take M.length)[j]?=Ya o:=by rw[xR hj];exact ho
 have h1:decide (M'.take M.length=M)=false:=decide_eq_false λe=>hne (by rw[e]at ht;exact ht);have h2:(M'.take M.length).all (wD M.length)=false:=by rw[Bool.eq_false_iff];intro z;have:=iw.mp z o (xT ht);rw[hb]at this;cases this
 unfold eV;rw[h1,h2];simp
theorem ZmR{d:D}(hl:M.length<=M'.length):∃S,eV M d M'= .ok d S/\M.length<=S.length/\∀a,a<M.length->S[a]?=M'[a]?:=by
 unfold eV;split
 .exact⟨_,rfl,by rw[Ah];omega,λa ha=>xR ha⟩
 .exact⟨_,rfl,hl,λa _=>rfl⟩
structure qy(S S':Store)(b:Nat)(ks:List Bk):Prop where
 len:S.length<=S'.length
 old:∀a,a<S.length->a∉b::ig ks->S'[a]?=S[a]?
theorem Nv{n m:Nat}(h:n<=m):∀{l:List D},D.ref m∈l->cj n l=false
 |d::l,hm=>by
  show(below n d&&cj n l)=false;rcases Yo.mp hm with e|e
  .rw[←e,show below n (.ref m)=decide (m<n)from rfl,decide_eq_false (by exactλz=>lB 2 25786650641 T1 z h)];rfl
  .rw[Nv h e,yj]
variable{h:List Nat}
theorem Zo3{e:E3}{hd:List D}(he:e env S= .ok (.tup (.str h::hd)) S):Cd iZ zp (Zb e (Zf)) env S= .ok (.ref S.length) (S++nObj S.length h hd):=by
 have hg:(Zb e Zf) env S= .ok [.tup (.str h::hd)] S:=Zt he rfl;have hF:zp [.ref S.length,.tup (.str h::hd)] (S++[.ins iZ []])= .ok .non (S++nObj S.length h hd):=by
  have s1:G5 iZ oO (Za 0) (Za 1) [Ya (.ref S.length),Ya (.tup (.str h::hd))] (S++[.ins iZ []])= .nx [Ya (.ref S.length),Ya (.tup (.str h::hd))] (S++[.ins iZ [(oO,.tup (.str h::hd))]]):=by refine p6 (d:=.non) (Zh rfl rfl ?_);rw[TY,Zo];simp[wH]
  have s2:G5 iZ u6 (Za 0) (aV (Zb (aV (Zf)) (Zf))) [Ya (.ref S.length),Ya (.tup (.str h::hd))] (S++[.ins iZ [(oO,.tup (.str h::hd))]])= .nx [Ya (.ref S.length),Ya (.tup (.str h::hd))] (S++nObj S.length h hd):=by
   have l1:aV (Zb (aV (Zf)) (Zf)) [Ya (.ref S.length),Ya (.tup (.str h::hd))] (S++[.ins iZ [(oO,.tup (.str h::hd))]])= .ok (.ref (S.length+2)) (S++[.ins iZ [(oO,.tup (.str h::hd))],.lst [],.lst [.ref (S.length+1)]]):=by
    refine(dz (M':=S++[.ins iZ [(oO,.tup (.str h::hd))],.lst []]) (ds:=[.ref (S.length+1)]) (Zt ((dz rfl rfl).trans ?_) rfl) rfl).trans ?_
    .simp
    .simp
   refine p6 (d:=.non) (Zh l1 rfl ?_);rw[TY,Zo];have:=GQ S [MO.ins iZ [(oO,.tup (.str h::hd))],.lst [],.lst [.ref (S.length+1)]] 0 (.ins iZ [(oO,.tup (.str h::hd)),(u6,.ref (S.length+2))]);rw[JV]at this;simp[wH,this]
  refine(GP (M':=S++nObj S.length h hd) (env:=[Ya (.ref S.length),Ya (.tup (.str h::hd))]) ((Zi s1).trans s2)).trans ?_;refine V4 (j:=S.length) (o:=.ins iZ [(oO,.tup (.str h::hd)),(u6,.ref (S.length+2))]) (by simp) (Zo _ _ _) ?_ ?_
  .show cj _ [.tup (.str h::hd),.ref (S.length+2)]=false;exact Nv (m:=S.length+2) (by simp) (by simp)
  .rw[Zo];simp
 simp only[Cd,hg,R3.bind,hF]
section
variable {S:Store} {b:Nat} {k:Bk} {ks:List Bk} {w:List Nat} {d:List D}
theorem u9{v:Option D}{x:Option D}:e2 Zn (Za 1) (eC (.int 0)) [Ya (.ref b),Ya (.tup (.str w::d)),v,x] S= .ok (.str w) S:=Zh rfl rfl (yO (gn _ 0))
theorem qy.AbJ(h:n∈b::ig ks):qy S (S.set n o) b ks:=⟨by rw[t_];exact Yt _,λa _ ha=>Yp λ(e:n=a)=>ha (e▸h)⟩
theorem qy.setG{G:Store}(h:n∈b::ig ks):qy S ((S++G).set n o) b ks:=⟨by rw[t_,Yf];exact jd _ _,λa hl ha=>by rw[Yp λ(e:n=a)=>ha (e▸h),Yj hl]⟩
theorem Zyd:k.cn∈b::ig (k::ks):=Yd _ (vI _ (by simp[Bk.ads]))
theorem Zzh:k.l∈b::ig (k::ks):=Yd _ (vI _ (by simp[Bk.ads]))
theorem Zmm(H:cZ S b (k::ks))(h1:kE w=false)(h2:w≠eZ)(h3:w≠eO)(hz:k.cur.length<1000):
  ∃S',uV [.ref b,.tup (.str w::d)] S= .ok .non S'/\cZ S' b ({k with cur:=k.cur++[.tup (.str w::d)]}::ks)/\qy S S' b (k::ks):=by
 have hk:=H.hk k Yc;refine⟨_,(GP (M':=S.set k.cn (.lst (k.cur++[.tup (.str w::d)]))) (env:=[Ya (.ref b),Ya (.tup (.str w::d)),Ym,Ym]) (env':=[Ya (.ref b),Ya (.tup (.str w::d)),Ya (.ref k.r),Ym]) ?_).trans (Zri (t_ ..)),H.more _,qy.AbJ Zyd⟩;unfold zq;refine(Zi (Zq (H.last rfl))).trans ?_;refine(o9 (M':=S) (dM u9 (by show R3.ok (D.bl (kE w)) S=_;rw[h1]))).trans ?_;refine(o9 (M':=S) (Zh u9 rfl (iz.trans (by rw[decide_eq_false h2])))).trans ?_;refine(o9 (M':=S) (Zh u9 rfl (iz.trans (by rw[decide_eq_false h3])))).trans ?_;exact nF (M':=S) (Zh (dM rfl hk.lists) (dM rfl (yF 1)) (iY hk.hl (getD_last _ _))) hk.hn rfl hk.hn (nT hz (by decide))
theorem Zqc(H:cZ S b (k::ks))(h1:kE w=true)(hz:ks.length<100):
  ∃S',uV [.ref b,.tup (.str w::d)] S= .ok .non S'/\cZ S' b (Nt S.length w d::k::ks)/\qy S S' b (k::ks):=by
 have hlt:=H.zG;refine⟨_,(GP (M':=(S++nObj S.length w d).set b (.lst (((k::ks).map λk=>D.ref k.r).reverse++[.ref S.length]))) (env:=[Ya (.ref b),Ya (.tup (.str w::d)),Ym,Ym]) (env':=[Ya (.ref b),Ya (.tup (.str w::d)),Ya (.ref k.r),Ym]) ?_).trans (V4 (j:=b) hlt (Yw (by rw[Yf];exact Fx _ hlt)) (Nv (m:=S.length) (Yt _) (iQ _ Yc)) ?_),H.push w d,qy.setG Yc⟩
 .unfold zq;refine(Zi (Zq (H.last rfl))).trans ?_;refine(fX (M':=S) (dM u9 (by show R3.ok (D.bl (kE w)) S=_;rw[h1]))).trans ?_;exact nF (M':=S) rfl H.hb (Zo3 (h:=w) (hd:=d) rfl) (bL H.hb _) (by simp only[Ff,Yu,Yk];exact nT (show ks.length+1<1000 by exact lA 1 0x3e83ba0c1642b011 T1 hz) (by decide))
 .rw[H.hb];intro e;have:=congrArg (λo:Option MO=>match o with|some (.lst x)=>x.length|_=>0) e;simp at this
theorem ZpS(H:cZ S b (k::ks))(hz:k.cl.length<100):
  ∃S',uV [.ref b,.tup (.str eZ::d)] S= .ok .non S'/\cZ S' b ({k with cl:=k.cl++[(k.cn,k.cur)],cn:=S.length,cur:=[]}::ks)/\qy S S' b (k::ks):=by
 have hk:=H.hk k Yc;have hlt:k.l<S.length:=hk.lt _ (by simp[Bk.ads]);refine⟨_,(GP (M':=(S++[MO.lst []]).set k.l (MO.lst ((k.cl.map λp=>D.ref p.1)++[D.ref k.cn]++[D.ref S.length]))) (env:=[Ya (.ref b),Ya (.tup (.str eZ::d)),Ym,Ym]) (env':=[Ya (.ref b),Ya (.tup (.str eZ::d)),Ya (.ref k.r),Ym]) ?_).trans (V4 (j:=k.l) hlt (Yw (by rw[Yf];exact Fx _ hlt)) (Nv (m:=S.length) (Yt _) (iQ _ Yc)) ?_),H.els,qy.setG Zzh⟩
 .unfold zq;refine(Zi (Zq (H.last rfl))).trans ?_;refine(o9 (M':=S) (dM u9 rfl)).trans ?_;refine(fX (M':=S) (Zh u9 rfl (iz.trans (by rw[decide_eq_true rfl])))).trans ?_;exact nF (M':=S) (dM rfl hk.lists) hk.hl (dz rfl rfl) (bL hk.hl _) (by simp only[Yf,Yu,jj];exact nT (show k.cl.length+1<1000 by exact lA 1 0x3e83ba0c1642b011 T1 hz) (by decide))
 .rw[hk.hl];intro e;have:=congrArg (λo:Option MO=>match o with|some (.lst x)=>x.length|_=>0) e;simp at this
noncomputable def Bk.whole(k:Bk):D:=.tup (.str k.h::k.hd++(k.cl++[(k.cn,k.cur)]).map λp=>D.tup p.2)
theorem Zqv{k2:Bk}(H:cZ S b (k::k2::ks))(hz:k.cl.length<100)(hd:k.hd.length<100)(hc:k2.cur.length<1000):
  ∃S',uV [.ref b,.tup (.str eO::d)] S= .ok .non S'/\cZ S' b ({k2 with cur:=k2.cur++[k.whole]}::ks)/\qy S S' b (k::k2::ks):=by
 have hk:=H.hk k Yc
 let S1:=S.set b (.lst ((k2::ks).map λk=>D.ref k.r).reverse)
 have H1:cZ S1 b (k2::ks):=H.pop;have hk1:qx S1 k:=hk.congr λa ha=>Yp λ(e:b=a)=>H.rest.2.1 (by rw[e];exact ha)
 let S2:=S1++[MO.lst ((k.cl++[(k.cn,k.cur)]).map λp=>D.tup p.2)]
 have H2:cZ S2 b (k2::ks):=H1.app _;have hk2:=H2.hk k2 Yc
 let S3:=S2.set k2.cn (.lst (k2.cur++[k.whole]))
 have H3:cZ S3 b ({k2 with cur:=k2.cur++[k.whole]}::ks):=H2.more _;have hl3:S.length<=S3.length:=by simp[S3,S2,S1]
 have lc:fW (bZ (e1 (jU iZ u6) (Za 2))) 1 (bA 4) [] (aC gC (Zb (Za 4) (Zf))) [Ya (.ref b),Ya (.tup (.str eO::d)),Ya (.ref k.r),Ym] S1= .ok (.ref S1.length) S2:=by
  refine VN (enc:=λp:Nat×List D=>D.ref p.1) (h:=λp=>D.tup p.2) (as:=k.cl++[(k.cn,k.cur)]) (M1:=S1) (lock:=Ya k.l) (λe=>∃a1 a2 a3 a4 a5,e=[a1,a2,a3,a4,a5]) ?_ ?_ ⟨_,_,_,_,_,rfl⟩ ?_ (by simp;exact lA 1 0x1869f5b00642b011 T1 hz)
  .show(e1 (jU iZ u6) (Za 2) _ _).bind _=_;rw[dM (d:=.ref k.l) rfl hk1.lists];simp only[R3.bind,hk1.hl,jl];rfl
  .intro n hn;cases hn;rw[jl];exact hk1.hl
  .intro p hp env ⟨a1,a2,a3,a4,a5,e⟩;subst e;refine⟨_,rfl,⟨_,_,_,_,_,rfl⟩,λx=>cC rfl (nZ (bL ?_ _))⟩;rcases fj.mp hp with q|q
   .exact hk1.hc p q
   .rw[Yy.mp q];exact hk1.hn
 have main:zq [Ya (.ref b),Ya (.tup (.str eO::d)),Ym,Ym] S= .nx [Ya (.ref b),Ya (.tup (.str eO::d)),Ya (.ref k.r),Ya k.whole] S3:=by
  unfold zq;refine(Zi (Zq (H.last rfl))).trans ?_;refine(o9 (M':=S) (dM u9 rfl)).trans ?_;refine(o9 (M':=S) (Zh u9 rfl (iz.trans (by rw[decide_eq_false (by decide)])))).trans ?_;refine(fX (M':=S) (Zh u9 rfl (iz.trans (by rw[decide_eq_true rfl])))).trans ?_;have hb:S[b]?=Ya (.lst (((k2::ks).map λk=>D.ref k.r).reverse++[D.ref k.r])):=by rw[H.hb,Ys,vJ]
  refine(Zi (p6 (Nu rfl hb))).trans ?_;refine(Zi (Zq (d:=k.whole) (M':=S2) (Zh (dM rfl hk1.head) (cC lc (nZ (Zo S1 _ []))) ?_))).trans ?_
  .rw[Th];refine if_pos ?_;simp only[Yk,Yu,Yf,Fi];exact Yi (show _<=1000 by exact lB 2 0x3e83baec1ca0cc0642b111642b011 T1 hd hz) (by decide)
  .exact nF (M':=S2) (Zh (dM (H2.last rfl) hk2.lists) (dM rfl (yF 1)) (iY hk2.hl (getD_last _ _))) hk2.hn rfl hk2.hn (nT hc (by decide))
 obtain⟨S',e,l1,o1⟩:=ZmR (M:=S) (M':=S3) (d:=.non) hl3;have old:∀a,a<S.length->a∉b::ig (k::k2::ks)->S3[a]?=S[a]?:=λa hlt ha=>by have n1:k2.cn≠a:=λz=>ha (Yd _ (by rw[rF,rF,←z];exact iQ _ (vI _ (by simp[Bk.ads]))));have n2:b≠a:=λz=>ha (by rw[z];exact Yc);show(S2.set k2.cn _)[a]?=_;rw[Yp n1];show(S1++_)[a]?=_;rw[Yj (by simp[S1];exact hlt)];exact Yp n2
 refine⟨S',(GP main).trans e,H3.frame λa ha=>o1 a ?_,l1,λa hl ha=>(o1 a hl).trans (old a hl ha)⟩;rcases Yo.mp ha with z|z
 .rw[z];exact H.zG
 .refine H.lt a ?_;rw[rF];exact iQ _ z
end
structure Pf where
 h:List Nat
 hd:List D
 cl:List (List D)
 cur:List D
noncomputable def Bk.pf(k:Bk):Pf:=⟨k.h,k.hd,k.cl.map (·.2),k.cur⟩
noncomputable def Pf.whole(k:Pf):D:=.tup (.str k.h::k.hd++(k.cl++[k.cur]).map D.tup)
theorem Zr1(k:Bk):k.whole=k.pf.whole:=by simp[Bk.whole,Pf.whole,Bk.pf]
noncomputable def Rw.tl(r:Rw):List D:=r.xs.map D.str++r.ts.map λt=>D.tup t.flat
theorem Nx(r:Rw):r.deed= .str r.h::r.tl:=rfl
noncomputable def stepK(r:Rw)(k:Pf)(fs:List Pf):Option (List Pf):=if kE r.h=true then(if fs.length+1<=12 then Ya (⟨r.h,r.tl,[],[]⟩::k::fs)else Ym)
  else if r.h=eZ then(if k.h=cD/\k.cl=[]then Ya (⟨k.h,k.hd,[k.cur],[]⟩::fs)else Ym)
  else if r.h=eO then(match fs with
   |[]=>Ym|k2::fs=>if tM k.h=((k.cl.length+1:Nat):Int)/\k.hd.length<100/\k.cl.length<100/\k2.cur.length<1000 then Ya (⟨k2.h,k2.hd,k2.cl,k2.cur++[k.whole]⟩::fs)else Ym)
  else if k.cur.length<1000 then Ya (⟨k.h,k.hd,k.cl,k.cur++[.tup r.deed]⟩::fs)else Ym
noncomputable def jA(r:Rw):List Pf->Option (List Pf)
 |[]=>Ym|k::fs=>stepK r k fs
structure xg(M S:Store)(b:Nat)(ks:List Bk):Prop where
 bk:cZ S b ks
 len:M.length<=S.length
 pre:∀a,a<M.length->S[a]?=M[a]?
 hi:∀a∈b::ig ks,M.length<=a
theorem xg.next{b:Nat}{ks':List Bk}(I:xg M S b ks)(h:cZ S' b ks')(st:qy S S' b ks)(ha:∀a∈ig ks',a∈ig ks\/S.length<=a):xg M S' b ks':=
 ⟨h,Yi I.len st.len,λa hl=>(st.old a (Y8 hl I.len) λz=>by have:=I.hi a z;exact lB 2 25787699201 T1 this hl).trans (I.pre a hl),λa z=>by
  rcases Yo.mp z with e|e
  .exact I.hi a (by rw[e];exact Yc)
  .rcases ha a e with q|q
   .exact I.hi a (Yd _ q)
   .exact Yi I.len q⟩
theorem Zn6{b:Nat}(I:xg M S b ks){fs:List Pf}(hp:jA r (ks.map Bk.pf)=Ya fs):
  CN [.ref b,.str r.h] S= .ok (.bl true) S/\∃S' ks',uV [.ref b,.tup r.deed] S= .ok .non S'/\xg M S' b ks'/\ks'.map Bk.pf=fs:=by
 cases ks with
 |nil=>cases hp|cons k ks=>
  rw[ZlA I.bk r.h];rw[Ys]at hp;have hp:stepK r k.pf (ks.map Bk.pf)=Ya fs:=hp;unfold stepK at hp;unfold V3;by_cases h1:kE r.h=true
  .rw[if_pos h1]at hp ⊢;by_cases hl:(ks.map Bk.pf).length+1<=12
   .rw[if_pos hl]at hp;rw[Yu]at hl;obtain⟨S',e,q1,q2⟩:=Zqc (d:=r.tl) I.bk h1 (lA 1 0x642b01c1ba0c01 T1 hl);refine⟨by rw[decide_eq_true hl],S',_,e,I.next q1 q2 λa ha=>?_,Y2 hp⟩;rw[rF]at ha;rcases fj.mp ha with z|z
    .right;simp[Bk.ads]at z;omega
    .exact .inl z
   .rw[if_neg hl]at hp;cases hp
  rw[if_neg h1]at hp ⊢;rw[Ylt]at h1;by_cases h2:r.h=eZ
  .rw [if_pos h2]at hp ⊢;by_cases hc:k.pf.h=cD/\k.pf.cl=[]
   .rw[if_pos hc]at hp;have hcl:k.cl=[]:=Af.mp hc.2;have hh:k.h=cD:=hc.1;obtain⟨S',e,q1,q2⟩:=ZpS (d:=r.tl) I.bk (by rw[hcl];decide);have hf:k.full=false:=by unfold Bk.full;rw[hh,hcl];rfl
    refine⟨by rw[decide_eq_true hh,hf];rfl,S',_,by rw[Nx,h2];exact e,I.next q1 q2 λa ha=>?_,?_⟩
    .rw[rF]at ha ⊢;rcases fj.mp ha with z|z
     .simp only[Bk.ads,hcl,jk,Ys,uc,Yo,qD,or_false]at z;rcases z with z|z|z|z
      .exact .inl (vI _ (by simp[Bk.ads,z]))
      .exact .inl (vI _ (by simp[Bk.ads,z]))
      .exact .inr (j9 z.symm)
      .exact .inl (vI _ (by simp[Bk.ads,z]))
     .exact .inl (iQ _ z)
    .rw[←Y2 hp,Ys];simp[Bk.pf,hcl]
   .rw[if_neg hc]at hp;cases hp
  rw[if_neg h2]at hp ⊢;by_cases h3:r.h=eO
  .rw [if_pos h3]at hp ⊢;cases ks with
   |nil=>cases hp|cons k2 ks=>
    simp only[Ys]at hp;by_cases hc:tM k.pf.h=((k.pf.cl.length+1:Nat):Int)/\k.pf.hd.length<100/\k.pf.cl.length<100/\k2.pf.cur.length<1000
    .rw[if_pos hc]at hp;have hcl:k.pf.cl.length=k.cl.length:=Yu _;obtain⟨c1,c2,c3,c4⟩:=hc;rw[hcl]at c1 c3;obtain⟨S',e,q1,q2⟩:=Zqv (d:=r.tl) I.bk c3 c2 c4;refine⟨by rw[show k.full=true from decide_eq_true c1],S',_,by rw[Nx,h3];exact e,I.next q1 q2 λa ha=>?_,?_⟩
     .left;rw[rF];exact iQ _ ha
     .rw[←Y2 hp,Ys,Zr1];rfl
    .rw[if_neg hc]at hp;cases hp
  rw[if_neg h3]at hp ⊢;by_cases hc:k.pf.cur.length<1000
  .rw[if_pos hc]at hp;obtain⟨S',e,q1,q2⟩:=Zmm (d:=r.tl) I.bk h1 h2 h3 hc;exact⟨rfl,S',_,e,I.next q1 q2 λa ha=>.inl ha,Y2 hp⟩
  .rw[if_neg hc]at hp;cases hp
noncomputable def kI:List Rw->List Pf->Option (List Pf)
 |[],fs=>Ya fs|r::rs,fs=>(jA r fs).bind (kI rs)
noncomputable abbrev rdB:S3:=Zr (aA 5 (Zz Hv (Zb (Za 4) (Zf)))) (Zr (aK (fH (e2 o6 (Za 5) (eC .non)) (e1 jr (Zz CN (Zb (Za 2) (Zb (e2 Zn (Za 5) (eC (.int 0))) (Zf)))))) (qU) (aW)) (aU (Zz uV (Zb (Za 2) (Zb (Za 5) (Zf))))))
noncomputable abbrev xj(q:Int×Nat×Rw):D:=.tup [.int q.1,.ref q.2.1]
theorem ZoX{M:Store}{b:Nat}{it:gm}(hit:∀S,(∀a,a<M.length->S[a]?=M[a]?)->locked it S=true){v0 v1:Option D}:
  ∀(L:List (Int×Nat×Rw)) (S:Store) (ks:List Bk) (fs:List Pf) (x3 x4 x5:Option D),xg M S b ks->(∀q∈L,M[q.2.1]?=Ya (.lst (q.2.2.words.map D.str))/\cQ q.2.2)->kI (L.map (·.2.2)) (ks.map Bk.pf)=Ya fs ->
  ∃S' ks' y3 y4 y5,dH it (o7 [3,4]) rdB (L.map xj) [v0,v1,Ya (.ref b),x3,x4,x5] S= .nx [v0,v1,Ya (.ref b),y3,y4,y5] S'/\xg M S' b ks'/\ks'.map Bk.pf=fs
 |[],S,ks,fs,x3,x4,x5,I,_,hr=>⟨S,ks,x3,x4,x5,by show dH _ _ _ [] _ _=_;rw[pZ,if_pos (hit S I.pre)],I,Y2 hr⟩|q::L,S,ks,fs,x3,x4,x5,I,hL,hr=>by
  obtain⟨hw,ok⟩:=hL q Yc;rw[Ys]at hr;cases hs:jA q.2.2 (ks.map Bk.pf)with
  |none=>unfold kI at hr;rw[hs]at hr;cases hr|some f1=>
   unfold kI at hr;rw[hs]at hr;obtain⟨c1,S1,k1,p1,I1,e1⟩:=Zn6 I hs;rw[←e1]at hr;obtain⟨S',ks',y3,y4,y5,h,I',e'⟩:=ZoX hit L S1 k1 fs (Ya (.int q.1)) (Ya (.ref q.2.1)) (Ya (.tup q.2.2.deed)) I1 (λp hp=>hL p (Yd _ hp)) hr;refine⟨S',ks',y3,y4,y5,?_,I',e'⟩;have hwS:S[q.2.1]?=Ya (.lst (q.2.2.words.map D.str)):=(I.pre _ (Ye.mp hw).1).trans hw;have hb:rdB [v0,v1,Ya (.ref b),Ya (.int q.1),Ya (.ref q.2.1),x5] S= .nx [v0,v1,Ya (.ref b),Ya (.int q.1),Ya (.ref q.2.1),Ya (.tup q.2.2.deed)] S1:=by refine(Zi (Zq (dJ rfl (Zl8 ok hwS)))).trans ?_;refine(Zi (cY (M':=S) ((n6 (M1:=S) (Zh rfl rfl rfl)).trans (dM (qY rfl (Zh rfl rfl (yO (gn _ 0))) c1) rfl)))).trans ?_;exact p6 (qY rfl rfl p1)
   rw[Ys,o8,if_pos (hit S I.pre)];simp only[o7,Lf,Le,lK,lM,hb];exact h
noncomputable abbrev jZ:List Nat:=[112,114,111,103,114,97,109]
theorem ZrV(M:Store):xg M (M++nObj M.length jZ []++[.lst [.ref M.length]]) (M.length+3) [Nt M.length jZ []]:=by
 have n:∀j,(M++nObj M.length jZ []++[.lst [.ref M.length]])[M.length+j]?=(nObj M.length jZ []++[.lst [.ref M.length]])[j]?:=λj=>by rw[gM,sY]
 refine⟨⟨(n 3).trans rfl,λk hk=>?_,?_,?_⟩,by simp,λa ha=>by rw[gM,Yj ha],λa ha=>?_⟩
 .rw[Yy.mp hk];exact⟨(n 0).trans rfl,(n 2).trans rfl,(λp hp=>nomatch hp),(n 1).trans rfl⟩
 .simp[ig,Bk.ads]
 .simp[ig,Bk.ads]
 .simp[ig,Bk.ads]at ha;omega
theorem ZgK{L:List (Int×Nat×Rw)}{z:Int}(hn:M[n]?=Ya (.lst (L.map xj)))(hL:∀q∈L,M[q.2.1]?=Ya (.lst (q.2.2.words.map D.str))/\cQ q.2.2)(hr:kI (L.map (·.2.2)) [⟨jZ,[],[],[]⟩]=Ya [⟨jZ,[],[],ds⟩])(xq:cj M.length ds=true):MJ [.ref n,.int z] M= .ok (.tup ds) M:=by
 let S0:=M++nObj M.length jZ []++[MO.lst [.ref M.length]]
 have hnl:=(Ye.mp hn).1;obtain⟨S',ks',y3,y4,y5,h,I,e⟩:=ZoX (M:=M) (it:=⟨L.map xj,Ya n⟩) (λS hS=>decide_eq_true ((hS n hnl).trans hn)) (v0:=Ya (.ref n)) (v1:=Ya (.int z)) L S0 [Nt M.length jZ []] _ Ym Ym Ym (ZrV M) hL hr
 match ks',e,I with
 |k::k'::r,e,_=>exact absurd (congrArg ud e) (by simp)|[],e,_=>exact absurd (congrArg ud e) (by simp)|[k],e,I=>
  have e:=(je e).1;have hcl:k.cl=[]:=Af.mp (congrArg Pf.cl e);have hcur:k.cur=ds:=congrArg Pf.cur e;have hk:=I.bk.hk k Yc;refine(jQ (M':=S') (d:=.tup ds) (env:=[Ya (.ref n),Ya (.int z),Ym,Ym,Ym,Ym]) ?_).trans ?_
  .unfold Vi;have m1:=Zo3 (env:=[Ya (.ref n),Ya (.int z),Ym,Ym,Ym,Ym]) (S:=M) (e:=bY (Zb (eC (.str jZ)) (Zf))) (h:=jZ) (hd:=[]) (gP rfl rfl);refine(Zi (Zq (d:=.ref (M.length+3)) (M':=S0) ((dz (Zt m1 rfl) rfl).trans (by simp[S0])))).trans ?_;have hi0:bZ (Za 0) [Ya (.ref n),Ya (.int z),Ya (.ref (M.length+3)),Ym,Ym,Ym] S0= .ok ⟨L.map xj,Ya n⟩ S0:=by
    show(R3.ok (D.ref n) S0).bind _=_;simp only[R3.bind];rw[show S0[n]?=Ya (.lst (L.map xj))from((ZrV M).pre n hnl).trans hn]
   refine(Zi ((qX hi0).trans h)).trans ?_;refine(Zi (cY (M':=S') (Zh (cC rfl (m5 I.bk.hb)) rfl (by rw[jP];rfl)))).trans ?_;refine di (cC (Zh (dM (Zh rfl rfl (iY I.bk.hb (gn _ 0))) hk.lists) rfl (iY hk.hl (d:=.ref k.cn) (by rw[hcl];exact gn _ 0))) ((nZ hk.hn).trans (by rw[hcur])))
  .have ht:S'.take M.length=M:=by
    apply xU;intro a;by_cases ha:a<M.length
    .rw[xR ha];exact I.pre a ha
    .rw[Jo (by rw[Ah];exact lC 2 137741013073 T1 ha (Q3 _ _)),Jo (j8 ha)]
   unfold eV;rw[show below M.length (.tup ds)=true from xq,ht,decide_eq_true rfl];rfl
noncomputable def j4:Option (List (List Nat))->List Nat
 |none=>[]|some ws=>glue [32] ws
structure zJ(ws:List (List Nat)):Prop where
 ne:ws≠[]
 fr:∀w∈ws,32∉w/\10∉w
 tx:glue [32] ws≠[]
 le:(glue [32] ws).length<=10000
noncomputable def rowsOf:Nat->List (Option (List (List Nat)))->List (Int×List (List Nat))
 |_,[]=>[]|k,Ym::r=>rowsOf (k+1) r|k,Ya ws::r=>((k:Nat),ws)::rowsOf (k+1) r
theorem V5:∀(k:Nat) (Ls:List (Option (List (List Nat)))),(rowsOf k Ls).map (·.2)=Ls.filterMap id
 |_,[]=>rfl|k,Ym::r=>V5 (k+1) r|k,Ya ws::r=>congrArg (ws:: ·) (V5 (k+1) r)
theorem V6:∀(k:Nat) (Ls:List (Option (List (List Nat)))),(rowsOf k Ls).length<=Ls.length
 |_,[]=>Yt _|k,Ym::r=>rZ (V6 (k+1) r)|k,Ya _::r=>pO (V6 (k+1) r)
noncomputable def lJ(n:Nat):List (Int×List (List Nat))->List D
 |[]=>[]|q::r=>.tup [.int q.1,.ref n]::lJ (n+1) r
noncomputable abbrev pF(L:List (Int×List (List Nat))):Store:=L.map λq=>MO.lst (q.2.map D.str)
noncomputable abbrev b7:E3:=bY (Zb (Za 4) (Zb (aG fM p7 (Za 5) (Zb (eC (.str [32])) (Zf))) (Zf)))
theorem Ef{ty:D->Store->Bool}{me:D->List D->Store->R3 D}{o:E3}{g:eQ}{M M1 M2 M3:Store}{a d:D}(h1:o env M= .ok a M1)(hi:ty a M1=true)(h2:g env M1= .ok ds M2)(h3:me a ds M2= .ok d M3):aG ty me o g env M= .ok d M3:=by simp only[aG,h1,R3.bind,hi,if_true,h2,h3]
theorem V7(h:x.length<=900000):p7 (.str x) [.str [c]] M= .ok (.ref M.length) (M++[.lst ((o_ x [c]).map D.str)]):=by rw[ZkN,if_pos ⟨by simp,Yi (show x.length+2<=1000000 by exact lA 1 0xf42405b21b0c0dbba05b001 T1 h) (by decide)⟩];rfl
theorem Zip{M:Store}{lk:List (Nat×List D)}(hlk:jR lk M=true):∀(Ls:List (Option (List (List Nat)))) (k:Nat) (acc:List D) (W:Store) (v0 v1 v2 v3 x y:Option D),(∀ws,Ya ws∈Ls->zJ ws)->acc.length+Ls.length<=10000 ->
  jT lk (o7 [4,5]) [e2 fU (Za 5) (eC (.str []))] b7 M.length (m9 k (Ls.map λl=>D.str (j4 l))) [v0,v1,v2,v3,x,y] (M++ .lst acc::W)
   = .ok (.ref M.length) (M++ .lst (acc++lJ (M.length+1+W.length) (rowsOf k Ls))::(W++pF (rowsOf k Ls)))
 |[],k,acc,W,v0,v1,v2,v3,x,y,_,_=>by show jT _ _ _ _ _ [] _ _=_;simp only[jT,HS hlk,if_true,rowsOf,lJ,pF,uc,kO]|none::Ls,k,acc,W,v0,v1,v2,v3,x,y,hL,hl=>by rw[Yk]at hl;have ih:=Zip hlk Ls (k+1) acc W v0 v1 v2 v3 (Ya (.int (k:Nat))) (Ya (.str [])) (λws hw=>hL ws (Yd _ hw)) (lB 1 0x27104b10c027104ba1c0c01 T1 hl);have ht:e2 fU (Za 5) (eC (.str [])) [v0,v1,v2,v3,Ya (.int (k:Nat)),Ya (.str [])] (M++ .lst acc::W)= .ok (.bl false) (M++ .lst acc::W):=Zh rfl rfl (Zyr rfl);show jT _ _ _ _ _ (.tup [.int (k:Nat),.str []]::m9 (k+1) (Ls.map λl=>D.str (j4 l))) _ _=_;simp only[jT,HS hlk,if_true,o7,Lf,Le,lK,lM,GK,ht,R3.bind,Ba,if_false];exact ih|some ws::Ls,k,acc,W,v0,v1,v2,v3,x,y,hL,hl=>by
  rw[Yk]at hl;have ok:=hL ws Yc
  let S:=M++ .lst acc::W
  have hS:S.length=M.length+1+W.length:=by simp[S];exact Y1 (lB 0 1790139547840 T1) (lB 0 0xa1c0c1a0cc0 T1)
  have ih:=Zip hlk Ls (k+1) (acc++[.tup [.int (k:Nat),.ref S.length]]) (W++[.lst (ws.map D.str)]) v0 v1 v2 v3 (Ya (.int (k:Nat))) (Ya (.str (glue [32] ws))) (λws hw=>hL ws (Yd _ hw)) (by simp;exact lB 1 0x27104b1a0cc027104ba1c0c01 T1 hl);have ht:e2 fU (Za 5) (eC (.str [])) [v0,v1,v2,v3,Ya (.int (k:Nat)),Ya (.str (glue [32] ws))] S= .ok (.bl true) S:=Zh rfl rfl (Zzf ok.tx);have hsp:o_ (glue [32] ws) [32]=ws:=VG 32 ws ok.ne λw hw=>(ok.fr w hw).1;have he:b7 [v0,v1,v2,v3,Ya (.int (k:Nat)),Ya (.str (glue [32] ws))] S= .ok (.tup [.int (k:Nat),.ref S.length]) (S++[.lst (ws.map D.str)]):=by refine gP (Zt rfl (Zt (Ef rfl rfl (Zt rfl rfl) ((V7 (Yi ok.le (by decide))).trans (by rw[hsp]))) rfl)) rfl
  have gt:(S++[MO.lst (ws.map D.str)])[M.length]?=Ya (.lst acc):=bL (Zo _ _ _) _;have lt:acc.length<SZ:=rY (show acc.length<=10000 by exact lB 1 0x27104b0027104ba1c0c01 T1 hl) (by decide);have st:(S++[MO.lst (ws.map D.str)]).set M.length (.lst (acc++[.tup [.int (k:Nat),.ref S.length]]))=M++ .lst (acc++[.tup [.int (k:Nat),.ref S.length]])::(W++[.lst (ws.map D.str)]):=by simp[S]
  show jT _ _ _ _ _ (.tup [.int (k:Nat),.str (glue [32] ws)]::m9 (k+1) (Ls.map λl=>D.str (j4 l))) _ S=_;have hlS:jR lk S=true:=HS hlk _;simp only[jT,hlS,if_true,o7,Lf,Le,lK,lM,GK,GJ,ht,R3.bind,he,gt,lt,st];rw[ih];simp only[rowsOf,lJ,pF,Ys,gM,pM,jk,Yf,jj,hS,qI]
noncomputable abbrev e_:List Nat:=[116,97,107,101]
variable{tk:List (List Nat)}
theorem Zrv{z:Int}{w:Nat}(hw:M[w]?=Ya (.lst ((e_::tk).map D.str)))(h0:tk≠[])(h6:tk.length<=6)(nd:tk.Nodup)(nm:∀x∈tk,fZ x):
  Mz [.tup [.int z,.ref w]] M= .ok (.tup (tk.map D.str)) M:=by
 have hpos:1<=tk.length:=Ykm λe=>h0 (Fe.mp e)
 let M1:=M++[MO.lst (tk.map D.str)]
 have h1:M1[M.length]?=Ya (.lst (tk.map D.str)):=Zo _ _ _;refine Rt.pure (G:=[.lst (tk.map D.str),.lst (tk.map λ_=>D.bl true)]) (env:=[Ya (.tup [.int z,.ref w]),Ym]) ?_ (Ed tk);unfold Ve;have s1:eU (e2 Zn (Za 0) (eC (.int 1))) (dG (eC (.int 1))) (fV) [Ya (.tup [.int z,.ref w]),Ym] M= .ok (.ref M.length) M1:=by refine(H_ (a:=Ya ((1:Nat):Int)) (b:=Ym) (Zh rfl rfl (yO (gn _ 1))) rfl rfl hw).trans ?_;rw[Ea];rfl
 refine(Zi (Zq s1)).trans ?_;have ln:∀{a b:Option D},aC bx (Zb (Za 1) (Zf)) [a,Ya (.ref M.length)] M1= .ok (.int (tk.length:Int)) M1:=(cC rfl (m5 h1)).trans (by rw[Yu]);have c1:e2 fQ (aC bx (Zb (Za 1) (Zf))) (eC (.int 1)) [Ya (.tup [.int z,.ref w]),Ya (.ref M.length)] M1= .ok (.bl false) M1:=Zh (ln (b:=Ym)) rfl (by rw[nY,decide_eq_false (by exactλz=>iN [_] [] 2 415002921105 T1 z hpos)]);have c2:e2 cX (aC bx (Zb (Za 1) (Zf))) (vp) [Ya (.tup [.int z,.ref w]),Ya (.ref M.length)] M1= .ok (.bl false) M1:=Zh (ln (b:=Ym)) (g:=vp) (b:=.int 6) rfl (by rw[jP,decide_eq_false (by exactλz=>iN [_] [] 2 0x661b0010861b91 T1 z h6)]);have c3:e2 fU (aC Ms (Zb (Za 1) (Zf))) (aC bx (Zb (Za 1) (Zf))) [Ya (.tup [.int z,.ref w]),Ya (.ref M.length)] M1= .ok (.bl false) M1:=by refine Zh (cC rfl (Zn7 h1 (lA 1 22174922551297 T1 h6))) (ln (b:=Ym)) ?_;rw[ZhU (by simpa using nd)];simp
 refine(Zi (cY ((n6 c1).trans ((n6 c2).trans c3)))).trans ?_;have hi:bZ (Za 1) [Ya (.tup [.int z,.ref w]),Ya (.ref M.length)] M1= .ok ⟨tk.map D.str,Ya M.length⟩ M1:=by show(R3.ok (D.ref M.length) M1).bind _=_;simp only[R3.bind,h1]
 have l1:=sZ (h:=λ_=>D.bl true) (own:=1) (i:=2) (elt:=Zz oE (Zb (Za 2) (Zf))) hi (λm e=>by cases e;exact h1)
  (λx hx M'=>dJ rfl ((nm x hx).is M')) (lA 1 0x186a05b0061b001 T1 h6)
 have t1:=all_map (p:=λ_=>true) (l:=tk) (Zo M1 (MO.lst (tk.map λ_=>D.bl true)) []);rw[show(tk.all λ_=>true)=true from iw.mpr λ_ _=>rfl]at t1;refine(Zi (cY (M':=M1++[.lst (tk.map λ_=>D.bl true)]) (dM (cC l1 t1) rfl))).trans ?_;refine di ((cC rfl (nZ (bL h1 _))).trans ?_);simp[M1]
noncomputable def xr(n:Nat):List (Int×List (List Nat))->List Rw->List (Int×Nat×Rw)
 |q::L,r::rs=>(q.1,n,r)::xr (n+1) L rs|_,_=>[]
theorem V8:∀(n:Nat) (L:List (Int×List (List Nat))) (rs:List Rw),L.map (·.2)=rs.map Rw.words->(xr n L rs).map xj=lJ n L/\(xr n L rs).map (·.2.2)=rs
 |_,[],[],_=>⟨rfl,rfl⟩|_,[],_::_,h=>nomatch h|_,_::_,[],h=>nomatch h|n,q::L,r::rs,h=>by obtain⟨h1,h2⟩:=V8 (n+1) L rs (je h).2;exact⟨by show xj (q.1,n,r)::(xr (n+1) L rs).map xj=_;rw[h1];rfl,by show r::(xr (n+1) L rs).map (·.2.2)=_;rw[h2]⟩
theorem V9{S:Store}:∀(n:Nat) (L:List (Int×List (List Nat))) (rs:List Rw),L.map (·.2)=rs.map Rw.words->(∀j,j<L.length->S[n+j]?=(pF L)[j]?)->(∀r∈rs,cQ r) ->
  ∀q∈xr n L rs,S[q.2.1]?=Ya (.lst (q.2.2.words.map D.str))/\cQ q.2.2
 |_,[],[],_,_,_,q,hq=>nomatch hq|_,[],_::_,h,_,_,_,_=>nomatch h|_,_::_,[],h,_,_,_,_=>nomatch h|n,p::L,r::rs,h,hS,ok,q,hq=>by
  rcases Yo.mp hq with e|e
  .rw[e];refine⟨(hS 0 (by simp)).trans ?_,ok r Yc⟩;show Ya (MO.lst (p.2.map D.str))=_;rw[show p.2=r.words from(je h).1]
  .exact V9 (n+1) L rs (je h).2 (λj hj=>by have:=hS (j+1) (by simpa using hj);rw[qI,mH 1 j];exact this) (λr hr=>ok r (Yd _ hr)) q e
variable{rs:List Rw}
theorem ZpG{Ls:List (Option (List (List Nat)))}(hne:Ls≠[])(hLs:∀ws,Ya ws∈Ls->zJ ws)(hn:Ls.length<=5000)(ht:(glue [10] (Ls.map j4)).length<=900000)(Abq:Ls.filterMap id=(if tk=[]then[]else[e_::tk])++rs.map Rw.words)(hok:∀r∈rs,cQ r)(h6:tk.length<=6)(nd:tk.Nodup)(nm:∀x∈tk,fZ x)(hr:kI rs [⟨jZ,[],[],[]⟩]=Ya [⟨jZ,[],[],ds⟩])(xq:∀n,cj n ds=true):Hw [.str (glue [10] (Ls.map j4))] M= .ok (.tup [.tup (tk.map D.str),.tup ds]) M:=by
 let T:=glue [10] (Ls.map j4)
 let M1:=M++[MO.lst (Ls.map λl=>D.str (j4 l))]
 let L:=rowsOf 1 Ls
 let M2:=M1++MO.lst (lJ (M1.length+1) L)::pF L
 have hfree:∀t∈Ls.map j4,10∉t:=by
  intro t hm;obtain⟨l,hl,rfl⟩:=dZ.mp hm;cases l with
  |none=>intro z;cases z|some ws=>
   have ok:=hLs ws hl;have key:∀vs:List (List Nat),(∀w∈vs,10∉w)->10∉glue [32] vs:=by
    intro vs
    induction vs with
    |nil=>intro _ z;cases z|cons v vs ih=>
     intro hv;cases vs with
     |nil=>exact hv v Yc|cons u us=>
      rw[tK];intro z;rcases fj.mp z with z|z
      .exact hv v Yc z
      .rcases fj.mp z with z|z
       .cases Yy.mp z
       .exact ih (λw hw=>hv w (Yd _ hw)) z
   exact key ws λw hw=>(ok.fr w hw).2
 have hsp:(o_ T [10]).map D.str=Ls.map λl=>D.str (j4 l):=by rw[VG 10 _ (λe=>hne (Af.mp e)) hfree,jH];rfl
 have s1:aG fM p7 (Za 0) (Zb (eC (.str [10])) (Zf)) [Ya (.str T),Ym,Ym,Ym] M= .ok (.ref M.length) M1:=Ef rfl rfl (Zt rfl rfl) ((V7 ht).trans (by rw[hsp]));have h1:M1[M.length]?=Ya (.lst (Ls.map λl=>D.str (j4 l))):=Zo _ _ _;have lk:jR [(M.length,Ls.map λl=>D.str (j4 l))] M1=true:=by simp only[jR,kW,Qp,J0];exact decide_eq_true h1
 have lp:=Zip lk Ls 1 [] [] (Ya (.str T)) (Ya (.ref M.length)) Ym Ym Ym Ym hLs (by simp;exact lA 1 0x27104b0013884b001 T1 hn);have s2:wG (T3 (Za 1)) 2 (o7 [4,5]) [e2 fU (Za 5) (eC (.str []))] b7 [Ya (.str T),Ya (.ref M.length),Ym,Ym] M1= .ok (.ref M1.length) M2:=by show(R3.bind (R3.bind (R3.ok (D.ref M.length) M1) _) _)=_;simp only[R3.bind,h1];exact lp
 have qw:M2[M1.length]?=Ya (.lst (lJ (M1.length+1) L)):=Zo _ _ _;have hobj:∀j,M2[M1.length+1+j]?=(pF L)[j]?:=λj=>by show(M1++MO.lst _::pF L)[_]?=_;rw[qI,sY,mH 1 j];rfl
 have hw:L.map (·.2)=(if tk=[]then[]else[e_::tk])++rs.map Rw.words:=(V5 1 Ls).trans Abq;have hLl:=V6 1 Ls;have hlen:∀{env:bK} {S:Store},Za 1 env S= .ok (.ref M.length) S->S[M.length]?=Ya (.lst (Ls.map λl=>D.str (j4 l)))->e2 aN (aC bx (Zb (Za 1) (Zf))) (eC (.int 1)) env S= .ok (.int ((Ls.length:Int)+1)) S:=λhv h=>Zh (cC hv (m5 h)) rfl (by rw[Yu];rfl);have X5:∀n,below n (.tup [.tup (tk.map D.str),.tup ds])=true:=λn=>by show(cj n (tk.map D.str)&&(cj n ds&&true))=true;rw[Ed,xq];rfl
 have h12:M2[M.length]?=Ya (.lst (Ls.map λl=>D.str (j4 l))):=bL h1 _;by_cases h0:tk=[]
 .rw [if_pos h0,jk]at hw;obtain⟨p1,p2⟩:=V8 (M1.length+1) L rs hw;have pa:=V9 (S:=M2) (M1.length+1) L rs hw (λj _=>hobj j) hok;have rd:=ZgK (M:=M2) (n:=M1.length) (L:=xr (M1.length+1) L rs) (z:=(Ls.length:Int)+1) (by rw[p1];exact qw) pa (by rw[p2];exact hr) (xq _);have hM:M2=M++([MO.lst (Ls.map λl=>D.str (j4 l)),.lst (lJ (M1.length+1) L)]++pF L):=by simp[M2,M1]
  refine Rt.pure (G:=[MO.lst (Ls.map λl=>D.str (j4 l)),.lst (lJ (M1.length+1) L)]++pF L) (env:=[Ya (.str T),Ym,Ym,Ym]) ?_ (X5 _);rw[←hM];unfold MK;refine(Zi (Zq s1)).trans ((Zi (Zq s2)).trans ((Zi (Zq (d:=.tup []) (M':=M2) (gP rfl rfl))).trans ?_));have cond:bN (e2 cX (aC bx (Zb (Za 2) (Zf))) (eC (.int 0))) (e2 bh (e2 Zn (e2 Zn (e2 Zn (Za 2) (eC (.int 0))) (eC (.int 1))) (eC (.int 0))) (eC (.str [116,97,107,101]))) [Ya (.str T),Ya (.ref M.length),Ya (.ref M1.length),Ya (.tup [])] M2= .ok (.bl false) M2:=by
   cases hL:L with
   |nil=>exact lX (Zh (cC rfl (m5 qw)) rfl (by rw[hL];rfl))|cons q L'=>
    rw[hL]at hw;cases rs with
    |nil=>cases hw|cons r rs=>
     have hq:q.2=r.words:=(je hw).1;rw[h_ (M1:=M2) (Zh (cC rfl (m5 qw)) rfl (by rw[hL,jP,decide_eq_true (by show(0:Int)<((lJ _ L').length+1:Nat);exact iN [_] [] 0 10537193 T1)]))];have o0:M2[M1.length+1]?=Ya (.lst (r.words.map D.str)):=by rw[←hq];exact(hobj 0).trans (by rw[hL];rfl)
     have hnt:¬r.h=e_:=λe=>by have:=(hok r Yc).sm;rw[e]at this;cases this
     refine Zh (Zh (Zh (Zh rfl rfl (iY qw (d:=.tup [.int q.1,.ref (M1.length+1)]) (by rw[hL];exact gn _ 0))) rfl (yO (gn _ 1))) rfl (iY o0 (d:=.str r.h) (gn _ 0))) rfl (iz.trans (by rw[decide_eq_false hnt]))
  refine(Zi (cY cond)).trans ?_;rw[h0];exact di (gP (Zt rfl (Zt (qY rfl (hlen rfl h12) rd) rfl)) rfl)
 .rw[if_neg h0]at hw;cases hL:L with
  |nil=>rw[hL]at hw;cases hw|cons q L'=>
   rw[hL]at hw;have hq:q.2=e_::tk:=(je hw).1;have hw':L'.map (·.2)=rs.map Rw.words:=(je hw).2;have o0:M2[M1.length+1]?=Ya (.lst ((e_::tk).map D.str)):=by rw[←hq];exact(hobj 0).trans (by rw[hL];rfl)
   have tkE:=Zrv (z:=q.1) o0 h0 h6 nd nm
   let M3:=M2++[MO.lst (lJ (M1.length+1+1) L')]
   obtain⟨p1,p2⟩:=V8 (M1.length+1+1) L' rs hw';have pa:=V9 (S:=M3) (M1.length+1+1) L' rs hw' (λj hj=>by have hj':(pF L')[j]?=Ya ((pF L')[j]'(by simpa using hj)):=Y3 _;rw[hj'];refine bL ?_ _;rw[←hj',qI (M1.length+1),mH 1 j,hobj (j+1),hL];rfl) hok;have rd:=ZgK (M:=M3) (n:=M2.length) (L:=xr (M1.length+1+1) L' rs) (z:=(Ls.length:Int)+1) (by rw[p1];exact Zo _ _ _) pa (by rw[p2];exact hr) (xq _);have hM:M3=M++([MO.lst (Ls.map λl=>D.str (j4 l)),.lst (lJ (M1.length+1) L)]++pF L++[MO.lst (lJ (M1.length+1+1) L')]):=by simp[M3,M2,M1]
   refine Rt.pure (G:=[MO.lst (Ls.map λl=>D.str (j4 l)),.lst (lJ (M1.length+1) L)]++pF L++[MO.lst (lJ (M1.length+1+1) L')]) (env:=[Ya (.str T),Ym,Ym,Ym]) ?_ (X5 _);rw[←hM];unfold MK;refine(Zi (Zq s1)).trans ((Zi (Zq s2)).trans ((Zi (Zq (d:=.tup []) (M':=M2) (gP rfl rfl))).trans ?_));have Py:M2[M1.length]?=Ya (.lst (lJ (M1.length+1) (q::L'))):=by rw[←hL];exact qw
   have i0:∀{a:Option D},e2 Zn (Za 2) (eC (.int 0)) [Ya (.str T),Ya (.ref M.length),Ya (.ref M1.length),a] M2= .ok (.tup [.int q.1,.ref (M1.length+1)]) M2:=Zh rfl rfl (iY Py (gn _ 0));have cond:bN (e2 cX (aC bx (Zb (Za 2) (Zf))) (eC (.int 0))) (e2 bh (e2 Zn (e2 Zn (e2 Zn (Za 2) (eC (.int 0))) (eC (.int 1))) (eC (.int 0))) (eC (.str [116,97,107,101]))) [Ya (.str T),Ya (.ref M.length),Ya (.ref M1.length),Ya (.tup [])] M2= .ok (.bl true) M2:=by rw[h_ (M1:=M2) (Zh (cC rfl (m5 Py)) rfl (by rw[jP,decide_eq_true (by show(0:Int)<((lJ _ L').length+1:Nat);exact iN [_] [] 0 10537193 T1)]))];exact Zh (Zh (Zh i0 rfl (yO (gn _ 1))) rfl (iY o0 (d:=.str e_) (gn _ 0))) rfl (iz.trans (by rw[decide_eq_true rfl]))
   have sl:eU (Za 2) (dG (eC (.int 1))) (fV) [Ya (.str T),Ya (.ref M.length),Ya (.ref M1.length),Ya (.tup (tk.map D.str))] M2= .ok (.ref M2.length) M3:=by refine(H_ (a:=Ya ((1:Nat):Int)) (b:=Ym) rfl rfl rfl Py).trans ?_;rw[Ea];rfl
   refine(Zi ((fX cond).trans ((Zi (Zq (dJ i0 tkE))).trans (Zq sl)))).trans ?_;exact di (gP (Zt rfl (Zt (qY rfl (hlen rfl (bL h12 _)) rd) rfl)) rfl)
theorem Zth(cs:List Int)(c d:Nat)(aq:Nat)(M:Store)(hd:M[d]?=Ya (.lst [.ref c,.int (aq:Int)]))(hc:M[c]?=Ya (.lst (cs.map D.int)))(ha:aq<1000000)(hne:c≠d):
  ∃v:Int,mz [.ref d] M= .ok (.int v) (M.set d (.lst [.ref c,.int ((aq+1:Nat):Int)])):=by
 have hdl:=(Ye.mp hd).1;have hc2:(M.set d (.lst [.ref c,.int ((aq:Int)+1)]))[c]?=Ya (.lst (cs.map D.int)):=by rw[Yp (dw hne)];exact hc
 have fin:∀v:Int,CP [Ya (.ref d),Ym,Ym] M= .rt (.int v) (M.set d (.lst [.ref c,.int ((aq:Int)+1)]))->∃v:Int,mz [.ref d] M= .ok (.int v) (M.set d (.lst [.ref c,.int ((aq+1:Nat):Int)])):=λv h=>by refine⟨v,(jQ h).trans ?_⟩;unfold eV;rw[rT (by simp)];split <;>first|exact rfl|simp
 have m1:mW (aq:Int) (aq:Int)=true:=Zyq (by omega);have m2:mW ((aq:Int)*aq) 3=true:=mul_r (by omega);by_cases h1:aq<cs.length
 .exact fin cs[aq] (by simp[CP,Zr,aA,aQ,aK,aW,aU,sV,hd,hc2,h1])
 .by_cases h2:cs.length=0
  .have n0:¬((aq:Int)<0):=(λz=>iN [_] [] 1 7211153 T1 z);exact fin ((aq:Int)*aq*3+aq) (by simp[CP,Zr,aA,aQ,aK,aW,aU,sV,hd,hc2,h2,m1,m2,n0])
  .obtain⟨a,ha',la⟩:=oJ (aq:Int) cs.length ((QW (fC _) (dw h2)));have p0:0<cs.length:=lB 1 31526929 T1 la;exact fin (cs[a] / 2+(aq:Int)*aq) (by simp[CP,Zr,aA,aQ,aK,aW,aU,sV,hd,hc2,h1,h2,m1,p0,ha',la])
structure fc(cs:List Int)(c d:Nat)(aq:Nat)(M:Store):Prop where
 hd:M[d]?=Ya (.lst [.ref c,.int (aq:Int)])
 hc:M[c]?=Ya (.lst (cs.map D.int))
 ne:c≠d
variable{aq d:Nat}{cs:List Int}
theorem fc.next(K:fc cs c d aq M)(ha:aq<1000000):∃(v:Int) (M':Store),mz [.ref d] M= .ok (.int v) M'/\fc cs c d (aq+1) M'/\M'.length=M.length/\∀j,j≠d->M'[j]?=M[j]?:=by obtain⟨v,h⟩:=Zth cs c d aq M K.hd K.hc ha K.ne;have hdl:=(Ye.mp K.hd).1;exact⟨v,_,h,⟨Yw hdl,by rw[Yp (dw K.ne)];exact K.hc,K.ne⟩,by simp,λj hj=>Yp (dw hj)⟩
structure Kp(d:Nat)(M M':Store):Prop where
 len:M.length<=M'.length
 old:∀j,j<M.length->j≠d->M'[j]?=M[j]?
theorem Kp.trans{M M1 M2:Store}(a:Kp d M M1)(b:Kp d M1 M2):Kp d M M2:=⟨Yi a.len b.len,λj h1 h2=>(b.old j (Y8 h1 a.len) h2).trans (a.old j h1 h2)⟩
theorem Kp.app(d:Nat)(M G:Store):Kp d M (M++G):=⟨by simp,λj h _=>Yj h⟩
theorem Kp.get(k:Kp d M M')(h:M[j]?=Ya o)(hj:j≠d):M'[j]?=Ya o:=(k.old j (Ye.mp h).1 hj).trans h
theorem Kp.put(k:Kp d M M')(hj:M.length<=j)(o:MO):Kp d M (M'.set j o):=⟨by rw[t_];exact k.len,λi h1 h2=>by rw[Yp (by exactλz=>lC 3 0x6020121111021 T1 z h1 hj)];exact k.old i h1 h2⟩
theorem fc.app(K:fc cs c d aq M)(G:Store):fc cs c d aq (M++G):=⟨bL K.hd G,bL K.hc G,K.ne⟩
theorem fc.put(K:fc cs c d aq M)(h1:j≠d)(h2:j≠c)(o:MO):fc cs c d aq (M.set j o):=⟨by rw[Yp h1];exact K.hd,by rw[Yp h2];exact K.hc,K.ne⟩
theorem fc.lt(K:fc cs c d aq M):c<M.length/\d<M.length:=⟨(Ye.mp K.hc).1,(Ye.mp K.hd).1⟩
theorem fc.draw(K:fc cs c d aq M)(ha:aq<1000000):∃(v:Int) (M':Store),mz [.ref d] M= .ok (.int v) M'/\fc cs c d (aq+1) M'/\Kp d M M'/\M'.length=M.length:=by obtain⟨v,M',h,K',l,o⟩:=K.next ha;exact⟨v,M',h,K',⟨j9 l.symm,λj _ hj=>o j hj⟩,l⟩
noncomputable abbrev Ny:S3:=(Zr (aA 6 (aG bj pY (Za 5) (Zf))) (Zr (aA 7 (Zz mz (Zb (Za 0) (Zf)))) (Zr (aA 8 (e2 iH (e2 iH (e2 iH (Za 3) (aC bx (Zb (Za 4) (Zf)))) (aC bx (Zb (Za 5) (Zf)))) (eC (.int 1)))) (Zr (aA 9 (e2 aY (Za 7) (eC (.int 9)))) (aK (bN (e2 fQ (Za 9) (eC (.int 3))) (bN (e2 cX (Za 6) (eC (.int 1))) (e2 cX (Za 8) (eC (.int 1))))) (Zr (aU (aG bj cu (Za 4) (Zb (e2 Zn (aV (Zb (eC (.str [97,100,100])) (Zb (eC (.str [115,117,98])) (Zb (eC (.str [109,111,114,101])) (Zf))))) (Za 9)) (Zf)))) (aU (aG bj m_ (Za 5) (Zb (aV (Zb (e2 iH (Za 6) (eC (.int 1))) (Zb (Za 6) (Zf)))) (Zf))))) (aK (bN (e2 bh (Za 9) (eC (.int 3))) (e2 cX (Za 8) (eC (.int 0)))) (Zr (aU (aG bj cu (Za 4) (Zb (eC (.str [99,101,108,108])) (Zf)))) (aU (aG bj cu (Za 5) (Zb (Za 6) (Zf))))) (aK (e2 fQ (Za 9) (eC (.int 7))) (aU (aG bj cu (Za 4) (Zb (e2 Zn (Za 1) (e2 aY (e2 b8 (Za 7) (eC (.int 9))) (eC (.int 12)))) (Zf)))) (aU (aG bj cu (Za 4) (Zb (Zz wY (Zb (e2 b8 (Za 7) (eC (.int 9))) (Zf))) (Zf)))))))))))
theorem ZqF(c:Int):∃v:Int,v.natAbs<10^60/\∀M,wY [.int c] M= .ok (.int v) M:=by
 obtain⟨a,ea,ha⟩:=oJ c 4 (by decide);have ea:c % 4=(a:Int):=ea
 let N:Int:=c / 4 % (10^59)
 let T:Int:=c / 4 % 12
 have hN0:0<=N:=qK _ (by decide);have hN1:N<10^59:=ur _ (by decide);have hT0:0<=T:=qK _ (by decide);have hT1:T<12:=ur _ (by decide);have goes:∀v:Int,([D.int T,.int (-1-T),.int N,.int (-1-N)]:List D)[a]?=Ya (.int v)->∀M,wY [.int c] M= .ok (.int v) M:=λv hv M=>by
  refine Rt.pure (G:=[.lst [.int T,.int (-1-T),.int N,.int (-1-N)]]) (env:=[Ya (.int c),Ym]) ?_ rfl;unfold Vn;have hp:e2 La (eC (.int 10)) (eC (.int 59)) [Ya (.int c),Ym] M= .ok (.int (10^59)) M:=Zh rfl rfl (by rw[ZmS,if_pos ⟨by decide,by decide,by decide⟩];rfl);refine(Zi (Zq (d:=.int N) (Zh (Zh rfl rfl (jx (by decide))) hp (gD (by decide))))).trans ?_;have l:aV (Zb (e2 aY (e2 b8 (Za 0) (eC (.int 4))) (eC (.int 12))) (Zb (e2 iH (e1 cL (eC (.int 1))) (e2 aY (e2 b8 (Za 0) (eC (.int 4))) (eC (.int 12)))) (Zb (Za 1) (Zb (e2 iH (e1 cL (eC (.int 1))) (Za 1)) (Zf))))) [Ya (.int c),Ya (.int N)] M= .ok (.ref M.length) (M++[.lst [.int T,.int (-1-T),.int N,.int (-1-N)]]):=by have t:e2 aY (e2 b8 (Za 0) (eC (.int 4))) (eC (.int 12)) [Ya (.int c),Ya (.int N)] M= .ok (.int T) M:=Zh (Zh rfl rfl (jx (by decide))) rfl (gD (by decide));exact dz (Zt t (Zt (Zh (dM rfl (yF 1)) t rfl) (Zt rfl (Zt (Zh (dM rfl (yF 1)) rfl rfl) rfl)))) rfl
  refine di (Zh l (Zh rfl rfl (gD (by decide))) (iY (Zo _ _ _) ?_));rw[ea,gn];exact hv
 match a,ha,goes with
 |0,_,goes=>exact⟨T,by omega,goes _ rfl⟩|1,_,goes=>exact⟨-1-T,by omega,goes _ rfl⟩|2,_,goes=>exact⟨N,by omega,goes _ rfl⟩|3,_,goes=>exact⟨-1-N,by omega,goes _ rfl⟩
inductive Fits:List Sm->List Nat->Prop
 |nil:Fits [] []
 |cons {t:Sm} {e:Nat} {ts:List Sm} {es:List Nat} (h:t.fit) (d:t.dp<=e) (r:Fits ts es):Fits (t::ts) (e::es)
def Nz(deep:Nat)(W:List D)(es:List Nat):Prop:=∀ts:List Sm,Fits ts es->∃t:Sm,t.fit/\t.dp<=deep/\t.flat=W++(ts.map Sm.flat).flatten
inductive zK(e:Nat)(es:List Nat):D->List Nat->Prop
 |num (i:Int) (h:i.natAbs<10^60):zK e es (.int i) es
 |eG (x:List Nat) (h:fZ x):zK e es (.str x) es
 |jy:zK e es (.str oK) (e::es)
 |two (o:Nat) (h:1<e):zK e es (.str (w6 o)) (e::(e-1)::es)
theorem Zug(deep:Nat):Nz deep [] [deep]:=λts h=>by
 cases h with
 |cons h d r=>cases r;exact⟨_,h,d,by simp⟩
variable{e:Nat}
theorem ZnL{deep:Nat}{W:List D}{es es':List Nat}(h:Nz deep W (e::es))(he:1<=e)(t:zK e es w es'):Nz deep (W++[w]) es':=by
 cases t with
 |num i hi=>intro ts f;obtain⟨t,h1,h2,h3⟩:=h (.num i::ts) (.cons hi he f);exact⟨t,h1,h2,by rw[h3];simp[Sm.flat]⟩|eG x hx=>intro ts f;obtain⟨t,h1,h2,h3⟩:=h (.eG x::ts) (.cons hx he f);exact⟨t,h1,h2,by rw[h3];simp[Sm.flat]⟩|jy=>
  intro ts f;cases f with
  | @cons a _ ts _ ha hd r=>obtain⟨t,h1,h2,h3⟩:=h (.jy a::ts) (.cons ha hd r);exact⟨t,h1,h2,by rw[h3];simp[Sm.flat]⟩
 | two o ho=>
  intro ts f;cases f with
  | @cons a _ ts _ ha hd r=>
   cases r with
   | @cons b _ ts _ hb hbd r=>obtain⟨t,h1,h2,h3⟩:=h (.two o a b::ts) (.cons ⟨ha,hb⟩ (Nat.max_le.mpr ⟨hd,lC 2 0x2a0c02a1c211001 T1 hbd (Y9 (Az ho))⟩) r);exact⟨t,h1,h2,by rw[h3];simp[Sm.flat]⟩
theorem ZqW{x:List D}(h1:M[n]?=Ya (.lst x))(h2:M[m]?=Ya (.lst y))(hne:n≠m)(hz:x.length+y.length<=900000):m_ (.ref n) [.ref m] M= .ok .non (M.set n (.lst (x++y))):=by simp only[m_,h1,h2];exact if_pos ⟨hne,Yi hz (by decide)⟩
structure LS(cs:List Int)(c d:Nat)(M S:Store)(p q:Nat)(W:List D)(es:List Nat)(aq:Nat):Prop where
 hp:S[p]?=Ya (.lst W)
 hq:S[q]?=Ya (.lst (es.reverse.map λ(e:Nat)=>D.int (e:Int)))
 dk:fc cs c d aq S
 kp:Kp d M S
 lp:M.length<=p
 lq:M.length<=q
 ne:p≠q
 ld:c<M.length/\d<M.length
variable{names:List (List Nat)}{nr:Nat}
section
variable {cs:List Int} {c d:Nat} {M S:Store} {p q:Nat} {W:List D} {es:List Nat} {aq:Nat}
theorem LS.app(L:LS cs c d M S p q W es aq)(G:Store):LS cs c d M (S++G) p q W es aq:=⟨bL L.hp G,bL L.hq G,L.dk.app G,L.kp.trans (Kp.app d S G),L.lp,L.lq,L.ne,L.ld⟩
theorem LS.Ja(L:LS cs c d M S p q W es aq)(W':List D):LS cs c d M (S.set p (.lst W')) p q W' es aq:=⟨Yw (Ye.mp L.hp).1,by rw[Yp L.ne];exact L.hq,L.dk.put (by have:=L.lp;have:=L.ld;omega) (by have:=L.lp;have:=L.ld;omega) _,L.kp.put L.lp _,L.lp,L.lq,L.ne,L.ld⟩
theorem LS.Pz(L:LS cs c d M S p q W es aq)(es':List Nat):LS cs c d M (S.set q (.lst (es'.reverse.map λ(e:Nat)=>D.int (e:Int)))) p q W es' aq:=⟨by rw[Yp (dw L.ne)];exact L.hp,Yw (Ye.mp L.hq).1,L.dk.put (by have:=L.lq;have:=L.ld;omega) (by have:=L.lq;have:=L.ld;omega) _,L.kp.put L.lq _,L.lp,L.lq,L.ne,L.ld⟩
theorem LS.draw(L:LS cs c d M S p q W es aq)(ha:aq<1000000):∃v S',mz [.ref d] S= .ok (.int v) S'/\LS cs c d M S' p q W es (aq+1):=by obtain⟨v,S',h,K,kp,l⟩:=L.dk.draw ha;have hd:=L.ld;exact⟨v,S',h,kp.get L.hp (by have:=L.lp;exactλz=>lC 3 0x6211102011021 T1 z this hd.2),kp.get L.hq (by have:=L.lq;exactλz=>lC 3 0x6211102011021 T1 z this hd.2),K,L.kp.trans kp,L.lp,L.lq,L.ne,L.ld⟩
theorem ZtQ{most:Nat}(L:LS cs c d M S p q W (e::es) aq)(ha:aq<1000000)(hnr:M[nr]?=Ya (.lst (names.map D.str)))(nd:nr≠d)(hn:names.length=12)(hnm:∀x∈names,fZ x)(hm:most<=60)(hl:W.length+es.length+1<=most){deep:Option D}(x6 x7 x8 x9:Option D):
  ∃w es' S' y6 y7 y8 y9,Ny [Ya (.ref d),Ya (.ref nr),deep,Ya (.int (most:Int)),Ya (.ref p),Ya (.ref q),x6,x7,x8,x9] S= .nx [Ya (.ref d),Ya (.ref nr),deep,Ya (.int (most:Int)),Ya (.ref p),Ya (.ref q),y6,y7,y8,y9] S'/\LS cs c d M S' p q (W++[w]) es' (aq+1)/\zK e es w es'/\W.length+1+es'.length<=most:=by
 have NK:W.length<SZ:=rY (show W.length<=60 by omega) (by decide);have hq0:S[q]?=Ya (.lst (es.reverse.map (λ(e:Nat)=>D.int (e:Int))++[D.int (e:Int)])):=by rw[L.hq,vJ,jl];rfl
 have L1:LS cs c d M (S.set q (.lst (es.reverse.map λ(e:Nat)=>D.int (e:Int)))) p q W es aq:=L.Pz es;obtain⟨v,S2,hv,_L2⟩:=L1.draw ha;obtain⟨way,ew,hw⟩:=oJ v 9 (by decide);have ew:v % 9=(way:Int):=ew
 let room:Int:=(most:Int)-(W.length:Int)-(es.length:Int)-1
 have s8:∀{a b:Option D},e2 iH (e2 iH (e2 iH (Za 3) (aC bx (Zb (Za 4) (Zf)))) (aC bx (Zb (Za 5) (Zf)))) (eC (.int 1)) [Ya (.ref d),Ya (.ref nr),deep,Ya (.int (most:Int)),Ya (.ref p),Ya (.ref q),Ya (.int (e:Int)),Ya (.int v),a,b] S2= .ok (.int room) S2:=by intro a b;refine Zh (Zh (Zh rfl (cC rfl (m5 _L2.hp)) rfl) (cC rfl (m5 _L2.hq)) rfl) rfl ?_;rw[Yu,Ff,Ti]
 let E:bK:=[Ya (.ref d),Ya (.ref nr),deep,Ya (.int (most:Int)),Ya (.ref p),Ya (.ref q),Ya (.int (e:Int)),Ya (.int v),Ya (.int room),Ya (.int (way:Int))]
 have start:∀{o:O3},(aK (bN (e2 fQ (Za 9) (eC (.int 3))) (bN (e2 cX (Za 6) (eC (.int 1))) (e2 cX (Za 8) (eC (.int 1))))) (Zr (aU (aG bj cu (Za 4) (Zb (e2 Zn (aV (Zb (eC (.str [97,100,100])) (Zb (eC (.str [115,117,98])) (Zb (eC (.str [109,111,114,101])) (Zf))))) (Za 9)) (Zf)))) (aU (aG bj m_ (Za 5) (Zb (aV (Zb (e2 iH (Za 6) (eC (.int 1))) (Zb (Za 6) (Zf)))) (Zf))))) (aK (bN (e2 bh (Za 9) (eC (.int 3))) (e2 cX (Za 8) (eC (.int 0)))) (Zr (aU (aG bj cu (Za 4) (Zb (eC (.str [99,101,108,108])) (Zf)))) (aU (aG bj cu (Za 5) (Zb (Za 6) (Zf))))) (aK (e2 fQ (Za 9) (eC (.int 7))) (aU (aG bj cu (Za 4) (Zb (e2 Zn (Za 1) (e2 aY (e2 b8 (Za 7) (eC (.int 9))) (eC (.int 12)))) (Zf)))) (aU (aG bj cu (Za 4) (Zb (Zz wY (Zb (e2 b8 (Za 7) (eC (.int 9))) (Zf))) (Zf))))))) E S2=o->Ny [Ya (.ref d),Ya (.ref nr),deep,Ya (.int (most:Int)),Ya (.ref p),Ya (.ref q),x6,x7,x8,x9] S=o:=λh=>by refine(Zi (Zq (Nu rfl hq0))).trans ((Zi (Zq (dJ rfl hv))).trans ((Zi (Zq s8)).trans ((Zi (Zq (d:=.int (way:Int)) (Zh rfl rfl ((gD (by decide)).trans (by rw[ew]))))).trans h)))
 by_cases h1:way<3/\1<e/\(1:Int)<room
 .have hc:bN (e2 fQ (Za 9) (eC (.int 3))) (bN (e2 cX (Za 6) (eC (.int 1))) (e2 cX (Za 8) (eC (.int 1)))) E S2= .ok (.bl true) S2:=by
   rw[h_ (M1:=S2) (Zh rfl rfl (by rw[nY,decide_eq_true (by exact iN [_] [] 1 54634285740049 T1 h1.1)])),h_ (M1:=S2) (Zh rfl rfl (by rw[jP,decide_eq_true (by exact iN [_] [] 1 145295889 T1 h1.2.1)]))];exact Zh rfl rfl (by rw[jP,decide_eq_true h1.2.2])
  let S3:=S2++[MO.lst [.str [97,100,100],.str [115,117,98],.str [109,111,114,101]]]
  have _L3:LS cs c d M S3 p q W es (aq+1):=_L2.app _;have hi:[D.str [97,100,100],.str [115,117,98],.str [109,111,114,101]][way]?=Ya (.str (w6 way)):=by
   match way,h1.1 with
   |0,_=>rfl|1,_=>rfl|2,_=>rfl
  have a1:=nF (env:=E) (M:=S2) (M':=S2) (o:=Za 4) (t:=e2 Zn (aV (Zb (eC (.str [97,100,100])) (Zb (eC (.str [115,117,98])) (Zb (eC (.str [109,111,114,101])) (Zf))))) (Za 9)) (M2:=S3) rfl _L2.hp (Zh (dz (ds:=[.str [97,100,100],.str [115,117,98],.str [109,111,114,101]]) rfl rfl) rfl (iY (Zo _ _ _) (by rw[gn];exact hi))) _L3.hp NK;have L4:=_L3.Ja (W++[.str (w6 way)])
  let S4:=S3.set p (.lst (W++[.str (w6 way)]))
  have L5:=L4.app [MO.lst [.int ((e-1:Nat):Int),.int (e:Int)]]
  let S5:=S4++[MO.lst [.int ((e-1:Nat):Int),.int (e:Int)]]
  have hql:q<S4.length:=(Ye.mp L4.hq).1;have L6:=L5.Pz (e::(e-1)::es);have a2:aU (aG bj m_ (Za 5) (Zb (aV (Zb (e2 iH (Za 6) (eC (.int 1))) (Zb (Za 6) (Zf)))) (Zf))) E S4= .nx E (S5.set q (.lst ((e::(e-1)::es).reverse.map λ(e:Nat)=>D.int (e:Int)))):=by refine p6 (d:=.non) (Ef rfl (by rw[yN,L4.hq]) (Zt (dz (ds:=[.int ((e-1:Nat):Int),.int (e:Int)]) (Zt (Zh rfl rfl (by rw[Ti];congr 2;exact qJ (iN [_,_] [] 1 433246112432129 T1 (gO _ _)) (iN [_,_] [] 1 0xa18f0881a0c21 T1 (Y9 (Az h1.2.1))))) rfl) rfl) rfl) ((ZqW L5.hq (Zo _ _ _) (d8 hql) (by simp;exact lC 2 0xdbb9e5b103c2b2012a10cc01 T1 hl hm)).trans ?_));simp;rfl
  exact⟨_,_,_,_,_,_,_,start ((fX hc).trans ((Zi a1).trans a2)),L6,.two way h1.2.1,by simp;omega⟩
 have hc1:bN (e2 fQ (Za 9) (eC (.int 3))) (bN (e2 cX (Za 6) (eC (.int 1))) (e2 cX (Za 8) (eC (.int 1)))) E S2= .ok (.bl false) S2:=by
  by_cases q1:way<3
  .rw[h_ (M1:=S2) (Zh rfl rfl (by rw[nY,decide_eq_true (by exact iN [_] [] 1 54634285740049 T1 q1)]))];by_cases q2:1<e
   .rw[h_ (M1:=S2) (Zh rfl rfl (by rw[jP,decide_eq_true (by exact iN [_] [] 1 145295889 T1 q2)]))];exact Zh rfl rfl (by rw[jP,decide_eq_false λz=>h1 ⟨q1,q2,z⟩])
   .exact lX (Zh rfl rfl (by rw[jP,decide_eq_false (by exactλz=>iN [_] [] 2 415086185105 T1 z q2)]))
  .exact lX (Zh rfl rfl (by rw[nY,decide_eq_false (by exactλz=>iN [_] [] 2 0x631b05131b0891 T1 z q1)]))
 by_cases h2:way=3/\(0:Int)<room
 .have hc:bN (e2 bh (Za 9) (eC (.int 3))) (e2 cX (Za 8) (eC (.int 0))) E S2= .ok (.bl true) S2:=by
   rw[h_ (M1:=S2) (Zh rfl rfl (wF (by exact qJ (iN [_] [] 1 54634268962849 T1 h2.1) (iN [_] [] 1 9009636683825 T1 h2.1))))];exact Zh rfl rfl (by rw[jP,decide_eq_true h2.2])
  have a1:=nF (env:=E) (M:=S2) (M':=S2) (o:=Za 4) (t:=eC (.str oK)) (M2:=S2) rfl _L2.hp rfl _L2.hp NK;have L4:=_L2.Ja (W++[.str oK]);have hz:(es.reverse.map λ(e:Nat)=>D.int (e:Int)).length<SZ:=by rw[Yu,Ff];exact rY (show es.length<=60 by exact lC 2 0x3c2b103c2b2012a10cc01 T1 hl hm) (by decide)
  have a2:=nF (env:=E) (M:=S2.set p (.lst (W++[.str oK]))) (M':=S2.set p (.lst (W++[.str oK]))) (o:=Za 5) (t:=Za 6) (M2:=S2.set p (.lst (W++[.str oK]))) rfl L4.hq rfl L4.hq hz;have L6:=L4.Pz (e::es);have e6:(es.reverse.map λ(e:Nat)=>D.int (e:Int))++[D.int (e:Int)]=(e::es).reverse.map λ(e:Nat)=>D.int (e:Int):=by simp
  rw[e6]at a2;exact⟨_,_,_,_,_,_,_,start ((o9 hc1).trans ((fX hc).trans ((Zi a1).trans a2))),L6,.jy,by simp;omega⟩
 have hc2:bN (e2 bh (Za 9) (eC (.int 3))) (e2 cX (Za 8) (eC (.int 0))) E S2= .ok (.bl false) S2:=by
  by_cases q1:way=3
  .rw[h_ (M1:=S2) (Zh rfl rfl (wF (qJ (iN [_] [] 1 54634268962849 T1 q1) (iN [_] [] 1 9009636683825 T1 q1))))];exact Zh rfl rfl (by rw[jP,decide_eq_false λz=>h2 ⟨q1,z⟩])
  .exact lX (Zh rfl rfl (BX (λz=>iN [_] [] 2 0x631b01131b08b1 T1 z (QW (iN [_] [] 1 54632036108449 T1 z) q1))))
 by_cases h3:way<7
 .obtain⟨a,ea,ha'⟩:=oJ (v / 9) 12 (by decide);have ea:v / 9 % 12=(a:Int):=ea;have hga:names[a]?=Ya (names[a]'(lB 2 72552035802787857 T1 ha' hn)):=Y3 _;have hnS:S2[nr]?=Ya (.lst (names.map D.str)):=_L2.kp.get hnr nd;have a1:=nF (env:=E) (M:=S2) (M':=S2) (o:=Za 4) (t:=e2 Zn (Za 1) (e2 aY (e2 b8 (Za 7) (eC (.int 9))) (eC (.int 12)))) (M2:=S2) rfl _L2.hp (Zh rfl (Zh (Zh rfl rfl (jx (by decide))) rfl (gD (by decide))) (iY hnS (d:=.str (names[a]'(lB 2 72552035802787857 T1 ha' hn))) (by rw[ea,gn,lO,hga];rfl))) _L2.hp NK;refine⟨_,_,_,_,_,_,_,start ((o9 hc1).trans ((o9 hc2).trans ((fX (M':=S2) (Zh rfl rfl (by rw[nY,decide_eq_true (by exact iN [_] [] 1 0x71b08971b011 T1 h3)]))).trans a1))),_L2.Ja _,.eG _ (hnm _ (t8 _)),lC 1 0x21a0cc02a10cc01 T1 hl⟩
 .obtain⟨z,hz,hzv⟩:=ZqF (v / 9);have a1:=nF (env:=E) (M:=S2) (M':=S2) (o:=Za 4) (t:=Zz wY (Zb (e2 b8 (Za 7) (eC (.int 9))) (Zf))) (M2:=S2) rfl _L2.hp (dJ (Zh rfl rfl (jx (by decide))) (hzv S2)) _L2.hp NK;exact⟨_,_,_,_,_,_,_,start ((o9 hc1).trans ((o9 hc2).trans ((o9 (M':=S2) (Zh rfl rfl (by rw[nY,decide_eq_false (by exactλz=>iN [_] [] 2 0x671b05171b0891 T1 z h3)]))).trans a1))),_L2.Ja _,.num z hz,lC 1 0x21a0cc02a10cc01 T1 hl⟩
end
theorem V_{q:Nat}{X:List Int}(hv:Za i env S= .ok (.ref q) S)(hq:S[q]?=Ya (.lst (X.map D.int))):e2 fU (Za i) (aV (Zf)) env S= .ok (.bl (!X.isEmpty)) (S++[.lst []]):=by
 refine Zh hv (dz rfl rfl) ?_;have hp:(X.map D.int).all (dF DEEP)=true:=iw.mpr λd hd=>by obtain⟨x,_,rfl⟩:=dZ.mp hd;rfl
 simp only[fU,Bw,bL hq,Zo,hp];cases X with
 |nil=>rfl|cons a X=>rfl
theorem ZqE(es:List Nat):es.reverse.map (λ(e:Nat)=>D.int (e:Int))=(es.reverse.map λ(e:Nat)=>(e:Int)).map D.int:=by rw[jH];rfl
section
variable {cs:List Int} {c d:Nat} {M S:Store} {p q:Nat} {W:List D} {es:List Nat} {aq:Nat}
theorem Zsq{es es':List Nat}(t:zK e es w es')(he:1<=e)(h:∀x∈es,1<=x):∀x∈es',1<=x:=by
 cases t with
 |num _ _=>exact h|eG _ _=>exact h|jy=>
  intro x hx;rcases Yo.mp hx with z|z
  .exact lB 2 687631044657 T1 z he
  .exact h x z
 | two o ho=>
  intro x hx;rcases Yo.mp hx with z|z
  .exact lB 2 687632093233 T1 z ho
  .rcases Yo.mp z with z|z
   .exact lC 3 0xa0a1c2012a111031 T1 z ho (gO _ _)
   .exact h x z
theorem ZrK{most deep:Nat}(hnr:M[nr]?=Ya (.lst (names.map D.str)))(nd:nr≠d)(hn:names.length=12)(hnm:∀x∈names,fZ x)(hm:most<=60){vd:Option D}:
  ∀(m fuel:Nat) (S:Store) (W:List D) (es:List Nat) (aq:Nat) (x6 x7 x8 x9:Option D),LS cs c d M S p q W es aq->W.length+m=most->m<fuel->W.length+es.length<=most->aq+m<1000000->(∀e∈es,1<=e)->Nz deep W es ->
  ∃(t:Sm) (S':Store) (at':Nat) (y6 y7 y8 y9:Option D),t.fit/\t.dp<=deep/\t.flat.length<=most/\at'<=aq+m/\sX (e2 fU (Za 5) (aV (Zf))) Ny fuel [Ya (.ref d),Ya (.ref nr),vd,Ya (.int (most:Int)),Ya (.ref p),Ya (.ref q),x6,x7,x8,x9] S= .nx [Ya (.ref d),Ya (.ref nr),vd,Ya (.int (most:Int)),Ya (.ref p),Ya (.ref q),y6,y7,y8,y9] S'/\LS cs c d M S' p q t.flat [] at':=by
 intro m
 induction m with
 |zero=>
  intro fuel S W es aq x6 x7 x8 x9 L h1 h2 h3 h4 h5 hd;have:es=[]:=Fe.mp (Y1 (lC 2 0xe102e0c31210c01 T1 h3 h1) (fC _));subst this;obtain⟨t,f1,f2,f3⟩:=hd [] .nil;have f3:t.flat=W:=by simpa using f3
  obtain⟨f,rfl⟩:∃f,fuel=f+1:=⟨fuel-1,Y1 ((gO _ _)) (j9 (Y9 (lA 1 10489361 T1 h2)))⟩;refine⟨t,_,aq,x6,x7,x8,x9,f1,f2,by rw[f3];exact lC 1 8592100353 T1 h3,jd _ _,?_,by rw[f3];exact L.app [.lst []]⟩;rw[BW,V_ (X:=[]) rfl L.hq];rfl
 | succ m ih=>
  intro fuel S W es aq x6 x7 x8 x9 L h1 h2 h3 h4 h5 hd;obtain⟨f,rfl⟩:∃f,fuel=f+1:=⟨fuel-1,Y1 ((gO _ _)) (j9 (Y9 (lB 1 6981028881 T1 h2)))⟩;cases es with
  |nil=>
   obtain⟨t,f1,f2,f3⟩:=hd [] .nil;have f3:t.flat=W:=by simpa using f3
   refine⟨t,_,aq,x6,x7,x8,x9,f1,f2,by rw[f3];exact lC 1 8592100353 T1 h3,jd _ _,?_,by rw[f3];exact L.app [.lst []]⟩;rw[BW,V_ (X:=[]) rfl L.hq];rfl
  |cons e es=>
   rw[Yk]at h3;have he:=h5 e Yc;obtain⟨w,es',S1,y6,y7,y8,y9,hb,L1,tt,hl⟩:=ZtQ (most:=most) (L.app [.lst []]) (lB 1 0xf42405b01f42405ba1c0c11 T1 h4) hnr nd hn hnm hm (lC 1 0x2a10cc02a1c0c01 T1 h3) (deep:=vd) x6 x7 x8 x9;obtain⟨t,S',at',z6,z7,z8,z9,f1,f2,f3,f4,f5,f6⟩:=ih f S1 (W++[w]) es' (aq+1) y6 y7 y8 y9 L1 (by simp;exact Y1 (lC 1 0x21a0cc02a1c0c21 T1 h1) (lC 1 0x1a0cc202a1c0c31 T1 h1)) (lB 1 1106520968209 T1 h2) (by simp;exact hl) (lB 1 0xf42405b1a0cc1f42405ba1c0c11 T1 h4) (Zsq tt he λx hx=>h5 x (Yd _ hx)) (ZnL hd he tt);refine⟨t,S',at',z6,z7,z8,z9,f1,f2,f3,lC 1 0xa2c1c002a1cc001 T1 f4,?_,f6⟩;have hq:S[q]?=Ya (.lst (((e::es).reverse.map λ(e:Nat)=>(e:Int)).map D.int)):=by rw[←ZqE];exact L.hq
   have hc:=V_ (env:=[Ya (.ref d),Ya (.ref nr),vd,Ya (.int (most:Int)),Ya (.ref p),Ya (.ref q),x6,x7,x8,x9]) (i:=5) rfl hq;have hx:(!((e::es).reverse.map λ(e:Nat)=>(e:Int)).isEmpty)=true:=by simp
   rw[hx]at hc;rw[BW,hc];show(match Ny _ _ with| .nx e M'=>_| .ct e M'=>_| .bk e M'=>_|o=>o)=_;rw[hb];exact f5
structure mF(cs:List Int)(c d:Nat)(M S:Store)(aq at' n:Nat):Prop where
 dk:fc cs c d at' S
 kp:Kp d M S
 le:at'<=aq+n
theorem Ib{at':Nat}{x:D}(ld:c<M.length/\d<M.length)(hd:fc cs c d at' M')(kp:Kp d M M')(le:at'<=aq+n):∃S,eV M x M'= .ok x S/\mF cs c d M S aq at' n:=by obtain⟨S,e,l,o⟩:=ZmR (M:=M) (M':=M') (d:=x) kp.len;exact⟨S,e,⟨by rw[o d ld.2];exact hd.hd,by rw[o c ld.1];exact hd.hc,hd.ne⟩,⟨l,λj h1 h2=>(o j h1).trans (kp.old j h1 h2)⟩,le⟩
theorem Wa{most deep:Nat}(dk:fc cs c d aq M)(hnr:M[nr]?=Ya (.lst (names.map D.str)))(nd:nr≠d)(hn:names.length=12)(hnm:∀x∈names,fZ x)(hm:most<=60)(h1:1<=most)(hde:1<=deep)(ha:aq+60<1000000):
  ∃(t:Sm) (S:Store) (at':Nat),t.fit/\t.dp<=deep/\t.flat.length<=most/\uW [.ref d,.ref nr,.int (deep:Int),.int (most:Int)] M= .ok (.tup t.flat) S/\mF cs c d M S aq at' 60:=by
 have ld:=dk.lt
 let M1:=M++[MO.lst []]++[MO.lst [.int (deep:Int)]]
 have L0:LS cs c d M M1 M.length (M.length+1) [] [deep] aq:=⟨bL (Zo _ _ _) _,by have:=Zo (M++[MO.lst []]) (MO.lst [.int (deep:Int)]) [];rw[Yf]at this;exact this,(dk.app _).app _,(Kp.app d M _).trans (Kp.app d _ _),Yt _,v8 _,(λz=>lA 1 111198257 T1 z),ld⟩;obtain⟨t,S',at',y6,y7,y8,y9,f1,f2,f3,f4,f5,f6⟩:=ZrK (deep:=deep) hnr nd hn hnm hm (vd:=Ya (.int (deep:Int))) most 1000000 M1 [] [deep] aq Ym Ym Ym Ym L0 (by simp) (lA 1 0xf42405b013c2b001 T1 hm) (by simp;exact h1) (lB 2 0xf42405b10c13c2b101f42405b3c2b0c11 T1 ha hm) (λe he=>by rw[Yy.mp he];exact hde) (Zug deep);obtain⟨S,e,D⟩:=Ib (aq:=aq) (x:=.tup t.flat) (n:=60) ld f6.dk f6.kp (lC 2 0x3c2b1c003c2b20121c001 T1 f4 hm);refine⟨t,S,at',f1,f2,f3,(jQ (M':=S') (env:=[Ya (.ref d),Ya (.ref nr),Ya (.int (deep:Int)),Ya (.int (most:Int)),Ym,Ym,Ym,Ym,Ym,Ym]) ?_).trans e,D⟩;unfold Vo;refine(Zi (Zq (d:=.ref M.length) (M':=M++[.lst []]) (dz rfl rfl))).trans ?_;refine(Zi (Zq (d:=.ref (M.length+1)) (M':=M1) ((dz (ds:=[.int (deep:Int)]) rfl rfl).trans (by rw[Yf];rfl)))).trans ?_;refine(Zi f5).trans ?_;exact di (cC rfl (nZ f6.hp))
end
noncomputable abbrev lwB:S3:=(aK (e1 (jt .str) (Za 2)) (aU (aG bj cu (Za 1) (Zb (Za 2) (Zf)))) (aU (aG bj m_ (Za 1) (Zb (fW (bZ (Za 2)) 1 (bA 3) [] (aC tu (Zb (Za 3) (Zf)))) (Zf)))))
inductive Part:D->Prop
 |eG (x:List Nat):Part (.str x)
 |sum (ws:List D) (h:∀w∈ws,tL w) (l:ws.length<=60):Part (.tup ws)
noncomputable def qz:D->List (List Nat)
 | .str x=>[x]|.tup ws=>ws.map b_|_=>[]
theorem ZuK(h:tL w)(M:Store):tu [w] M= .ok (.str (b_ w)) M:=by
 cases h with
 |int i hi=>rw[ZoZ,if_pos (Zvl hi)];rfl|eG x _=>rfl|op x _=>rfl
theorem Zty{P:D}(h:Part P):(qz P).length<=60:=by
 cases h with
 |eG x=>exact(show 1<=60 by decide)|sum ws _ l=>simpa[qz]using l
theorem ZoD{M:Store}{W0:Option D}{it:gm}(hi:it.lock=Ym):∀(Ps:List D) (acc:List (List Nat)) (G:Store) (x:Option D),(∀P∈Ps,Part P)->acc.length+60*Ps.length<=1000 ->
  ∃G' y,dH it (bA 2) lwB Ps [W0,Ya (.ref M.length),x] (M++ .lst (acc.map D.str)::G)= .nx [W0,Ya (.ref M.length),y] (M++ .lst ((acc++Ps.flatMap qz).map D.str)::G')
 |[],acc,G,x,_,_=>⟨G,x,by rw[pZ,if_pos (by unfold locked;rw[hi])];simp⟩|P ::Ps,acc,G,x,hP,hl=>by
  rw[Yk]at hl;have hp:=hP P Yc;have hpl:=Zty hp
  let S:=M++ .lst (acc.map D.str)::G
  have hS:S[M.length]?=Ya (.lst (acc.map D.str)):=Zo _ _ _;have step:∃G1,lwB [W0,Ya (.ref M.length),Ya P] S= .nx [W0,Ya (.ref M.length),Ya P] (M++ .lst ((acc++qz P).map D.str)::G1):=by
   cases hp with
   |eG y=>refine⟨G,(fX (M':=S) (by rfl)).trans ((VJ rfl hS (d:=.str y) rfl hS (by rw[Yu];exact rY (show acc.length<=1000 by exact lB 1 0x3e83b003e83ba1c3cd0c01 T1 hl) (by decide))).trans ?_)⟩;simp[S,qz]|sum ws hw l=>
    have lc:=sZ (h:=λw=>D.str (b_ w)) (enc:=λw=>w) (own:=1) (i:=3) (it:=bZ (Za 2)) (elt:=aC tu (Zb (Za 3) (Zf))) (env:=[W0,Ya (.ref M.length),Ya (.tup ws)]) (M:=S) (M1:=S) (lock:=Ym) (as:=ws) (by rw[Qq];rfl) (λn z=>nomatch z)
     (λw hw' M'=>cC rfl (ZuK (hw w hw') M')) (lA 1 0x186a05b003c2b001 T1 l)
    have hlt:M.length<S.length:=(Ye.mp hS).1;refine⟨G++[.lst (ws.map λw=>D.str (b_ w))],(o9 (M':=S) (by rfl)).trans ((p6 (d:=.non) (Ef rfl (by rw[yN,hS]) (Zt lc rfl) (ZqW (bL hS _) (Zo _ _ _) (d8 hlt) (by simp;exact lC 2 0xdbba05b01c03e83ba2c3cd1c013c2b001 T1 l hl)))).trans ?_)⟩;simp[S,qz]
  obtain⟨G1,h1⟩:=step;obtain⟨G',y,h2⟩:=ZoD hi Ps (acc++qz P) G1 (Ya P) (λQ hQ=>hP Q (Yd _ hQ)) (by rw[Yf];exact lC 2 0x3e83b23cd01cc03e83ba2c3cd1c013c2b001 T1 hpl hl);refine⟨G',y,?_⟩;rw[o8,if_pos (by unfold locked;rw[hi])];simp only[bA,lK,lM];rw[show(M++MO.lst (acc.map D.str)::G)=S from rfl,h1];simp only;rw[h2,Qj,gM]
theorem Rw.parts(H:cQ r):∀P∈r.tl,Part P:=λP hP=>by
 rcases fj.mp hP with h|h
 .obtain⟨x,_,rfl⟩:=dZ.mp h;exact .eG x
 .obtain⟨t,ht,rfl⟩:=dZ.mp h;exact .sum _ (HX t (H.ok.fit t ht)) (Yi (Nq ht) H.ok.len)
theorem Rw.Abi(r:Rw):r.h::r.tl.flatMap qz=r.words:=by
 unfold Rw.words Rw.tl;rw[List.flatMap_append];have e1:∀xs:List (List Nat),(xs.map D.str).flatMap qz=xs:=by
  intro xs
  induction xs with
  |nil=>rfl|cons x xs ih=>rw[Ys,Qj,ih];rfl
 have e2:∀ts:List Sm,(ts.map λt=>D.tup t.flat).flatMap qz=(bQ ts).map b_:=by
  intro ts
  induction ts with
  |nil=>rfl|cons t ts ih=>rw[Ys,Qj,ih,bQ,bQ,Ys,kJ,jl];rfl
 rw[e1,e2]
theorem Zo7(h:tL w):(b_ w).length<=61:=by
 cases h with
 |int i hi=>exact ZoE hi|eG x hx=>exact Yi hx.le (by decide)|op x hx=>exact Yi (V2 hx).2.1 (by decide)
theorem zM(H:cQ r):dD r.h jY≠Ym:=by rw[H.sm];exactλz=>nomatch z
theorem Ie(k:dD h jY≠Ym):h=jh\/h=oM\/h=oN\/h=cD\/h=eZ\/h=fP\/h=eO:=by
 by_cases h1:h=jh
 .exact .inl h1
 by_cases h2:h=oM
 .exact .inr (.inl h2)
 by_cases h3:h=oN
 .exact .inr (.inr (.inl h3))
 by_cases h4:h=cD
 .exact .inr (.inr (.inr (.inl h4)))
 by_cases h5:h=eZ
 .exact .inr (.inr (.inr (.inr (.inl h5))))
 by_cases h6:h=fP
 .exact .inr (.inr (.inr (.inr (.inr (.inl h6)))))
 by_cases h7:h=eO
 .exact .inr (.inr (.inr (.inr (.inr (.inr h7)))))
 .exact absurd (show dD h jY=Ym by simp only[jY,dD,if_neg h1,if_neg h2,if_neg h3,if_neg h4,if_neg h5,if_neg h6,if_neg h7]) k
theorem Wb(k:dD h jY≠Ym):1<=h.length/\h.length<=5/\∀c∈h,97<=c:=by rcases Ie k with rfl|rfl|rfl|rfl|rfl|rfl|rfl <;>decide
theorem ZkA(H:cQ r):∀w∈r.words,w.length<=61/\32∉w/\10∉w:=λw hw=>by
 have low:∀{c:Nat} {l:List Nat},(∀x∈l,45<=x)->c<45->c∉l:=λh hc z=>by have:=h _ z;exact lA 2 0x62d2b01102d2b01 T1 this hc
 rcases Yo.mp hw with e|e
 .have q:=Wb (zM H);rw[e];exact⟨lA 1 67254898241537 T1 q.2.1,low (λx hx=>Yi (by decide) (q.2.2 x hx)) (by decide),low (λx hx=>Yi (by decide) (q.2.2 x hx)) (by decide)⟩
 .rcases fj.mp e with e|e
  .have q:=H.nm w e;exact⟨Yi q.le (by decide),low (λx hx=>Yi (by decide) (q.low x hx).1) (by decide),low (λx hx=>Yi (by decide) (q.low x hx).1) (by decide)⟩
  .obtain⟨v,hv,rfl⟩:=dZ.mp e;have hf:=HY H.ok.fit v hv;have key:∀x∈b_ v,45<=x:=by
    cases hf with
    |int i hi=>exact(VH i hi).2.2|eG x hx=>exactλc hc=>Yi (by decide) (hx.low c hc).1|op x hx=>exactλc hc=>Yi (by decide) ((V2 hx).2.2 c hc)
   exact⟨Zo7 hf,low key (by decide),low key (by decide)⟩
theorem Wc(H:cQ r):r.words.length<=60:=by have:=H.le;simp only[Rw.words,Yk,Yf,Yu];exact lB 1 0x3c2ba10cc03b2b10c01 T1 this
theorem ZmM(H:cQ r):zJ r.words:=by
 have hw:=ZkA H;have hl:=(Nk 32 61 r.words λw h=>(hw w h).1).2;have hc:=Wc H;refine⟨(λz=>nomatch z),λw h=>(hw w h).2,λz=>?_,by omega⟩;have q:=(Wb (zM H)).1;have:r.h≠[]:=λe=>by rw[e]at q;exact absurd q (by decide)
 unfold Rw.words at z;cases e:r.xs++(bQ r.ts).map b_ with
 |nil=>rw[e]at z;exact this z|cons y ys=>rw[e,tK]at z;exact this (Qg.mp z).1
theorem ZmK(H:cQ r)(M:Store):Hx [.tup r.deed] M= .ok (.str (glue [32] r.words)) M:=by
 have hfew:=Nr r.ts;have hle:=H.le;obtain⟨G,y,h⟩:=ZoD (M:=M) (W0:=Ya (.tup r.deed)) (it:=⟨r.tl,Ym⟩) rfl r.tl [r.h] [] Ym (Rw.parts H) (by
  have:r.tl.length<=3:=by
   have hx:=H.nx;have hs:=Ie (zM H);have hsm:=H.sm;have h2:r.ts.length<=2:=by rcases hs with e|e|e|e|e|e|e<;>(rw[e]at hsm;have:=Y2 hsm;omega)
   have h1:r.xs.length<=1:=by rw[hx];split <;>omega
   simp only[Rw.tl,Yf,Yu];exact lB 2 0x31b10c021b101a001 T1 h1 h2
  simp;omega)
 refine Rt.pure (G:=.lst (([r.h]++r.tl.flatMap qz).map D.str)::G) (env:=[Ya (.tup r.deed),Ym,Ym]) ?_ rfl;unfold Vq;refine(Zi (Zq (d:=.ref M.length) (M':=M++[.lst [.str r.h]]) (dz (Zt (Zh rfl rfl (yO (gn _ 0))) rfl) rfl))).trans ?_;have hit:bZ (eU (Za 0) (dG (eC (.int 1))) (fV)) [Ya (.tup r.deed),Ya (.ref M.length),Ym] (M++[.lst [.str r.h]])= .ok ⟨r.tl,Ym⟩ (M++[.lst [.str r.h]]):=by show R3.ok (⟨cutD r.deed (Ya ((1:Nat):Int)) Ym,Ym⟩:gm) _=_;rw[Ea];rfl
 refine(Zi ((qX hit).trans h)).trans ?_;have ew:([r.h]++r.tl.flatMap qz)=r.words:=r.Abi;rw[ew];have hz:=(Nk 32 61 r.words λw h=>(ZkA H w h).1).1;have hc:=Wc H;exact di (u0 rfl rfl (Nm (Zo _ _ _) (Yi (show _<=10000 by omega) (by decide))))
variable{a:Nat}
theorem mF.mono{a':Nat}(h:mF cs c d M S a a' n)(k:n<=m):mF cs c d M S a a' m:=⟨h.dk,h.kp,Yi h.le (Nat.add_le_add_left k _)⟩
theorem mF.app{G:Store}{a':Nat}(h:mF cs c d (M++G) S a a' n):mF cs c d M S a a' n:=⟨h.dk,(Kp.app d M G).trans h.kp,h.le⟩
theorem mF.trans{T:Store}{a b e n m:Nat}(h:mF cs c d M S a b n)(k:mF cs c d S T b e m):mF cs c d M T a e (n+m):=⟨k.dk,h.kp.trans k.kp,by have:=h.le;have:=k.le;omega⟩
theorem Wd{t:Sm}(hs:dD h jY=Ya 1)(hn:h≠jh)(f:t.fit)(dp:t.dp<=6)(l:t.flat.length<=50):cQ ⟨h,[],[t]⟩:=by
 have el:(bQ [t]).length=t.flat.length:=by simp[bQ]
 refine⟨hs,by rw[if_neg hn];rfl,(λx hx=>nomatch hx),⟨λs hs=>by rw[Yy.mp hs];exact f,by show(bQ [t]).length<=60;exact lB 2 0x3c2b00322b1011021 T1 el l,?_⟩,by show 0+(bQ [t]).length<=59;exact lB 2 0x3b2b0ec0322b1011021 T1 el l⟩;show((t.dp+0:Nat):Int)<=6;exact iN [_] [] 1 0x61be0c8861b001 T1 dp
theorem ZwU{t:Sm}(hx:fZ x)(f:t.fit)(dp:t.dp<=6)(l:t.flat.length<=50):cQ ⟨jh,[x],[t]⟩:=by
 have el:(bQ [t]).length=t.flat.length:=by simp[bQ]
 refine⟨rfl,rfl,λy hy=>by rw[Yy.mp hy];exact hx,⟨λs hs=>by rw[Yy.mp hs];exact f,by show(bQ [t]).length<=60;exact lB 2 0x3c2b00322b1011021 T1 el l,?_⟩,by show 1+(bQ [t]).length<=59;exact lB 2 0x3b2b0ac0322b1011021 T1 el l⟩;show((t.dp+0:Nat):Int)<=6;exact iN [_] [] 1 0x61be0c8861b001 T1 dp
theorem Zvi{t u:Sm}(f:t.fit)(g:u.fit)(dp:t.dp<=6)(du:u.dp<=5)(l:t.flat.length<=29)(l2:u.flat.length<=29):cQ ⟨oM,[],[t,u]⟩:=by
 have el:(bQ [t,u]).length=t.flat.length+u.flat.length:=by simp[bQ]
 refine⟨rfl,rfl,(λx hx=>nomatch hx),⟨λs hs=>?_,by show(bQ [t,u]).length<=60;exact lC 3 0x3c2b001d2b1011d2b20121c021 T1 el l2 l,?_⟩,by show 0+(bQ [t,u]).length<=59;exact lC 3 0x3b2b0ec01d2b1011d2b20121c021 T1 el l2 l⟩
 .rcases Yo.mp hs with e|e
  .rw[e];exact f
  .rw[Yy.mp e];exact g
 .show(if((u.dp+(0+1):Nat):Int)>((t.dp+0:Nat):Int)then((u.dp+(0+1):Nat):Int)else((t.dp+0:Nat):Int))<=6;split <;>omega
structure NP(r:Rw):Prop where
 b:kE r.h=false
 e:r.h≠eZ
 n:r.h≠eO
section
variable {cs:List Int} {c d:Nat} {M:Store} {aq:Nat}
theorem ZsW(dk:fc cs c d aq M)(hnr:M[nr]?=Ya (.lst (names.map D.str)))(nd:nr≠d)(hn:names.length=12)(hnm:∀x∈names,fZ x)(ha:aq+120<1000000)(v:Int):
  ∃(r:Rw) (S:Store) (at':Nat),cQ r/\NP r/\MT [.ref d,.ref nr,.int v] M= .ok (.tup r.deed) S/\mF cs c d M S aq at' 120:=by
 have ld:=dk.lt;obtain⟨a,ea,ha4⟩:=oJ (v / 10) 4 (by decide);have ea:v / 10 % 4=(a:Int):=ea;obtain⟨b,eb,hb⟩:=oJ (v / 3) 6 (by decide);have eb:v / 3 % 6=(b:Int):=eb;obtain⟨b2,Wf,hb2⟩:=oJ (v / 7) 5 (by decide);have Wf:v / 7 % 5=(b2:Int):=Wf
 let M1:=M++[MO.lst [.int 3,.int 3,.int 7,.int 20]]
 have m1:∃m:Nat,1<=m/\m<=20/\[D.int 3,.int 3,.int 7,.int 20][a]?=Ya (.int (m:Int)):=by
  match a,ha4 with
  |0,_=>exact⟨3,by decide,by decide,rfl⟩|1,_=>exact⟨3,by decide,by decide,rfl⟩|2,_=>exact⟨7,by decide,by decide,rfl⟩|3,_=>exact⟨20,by decide,by decide,rfl⟩
 obtain⟨m0,hm1,hm2,hm3⟩:=m1;have s3:aA 3 (e2 Zn (aV (Zb (eC (.int 3)) (Zb (eC (.int 3)) (Zb (eC (.int 7)) (Zb (eC (.int 20)) (Zf)))))) (e2 aY (e2 b8 (Za 2) (eC (.int 10))) (eC (.int 4)))) [Ya (.ref d),Ya (.ref nr),Ya (.int v),Ym,Ym] M= .nx [Ya (.ref d),Ya (.ref nr),Ya (.int v),Ya (.int (m0:Int)),Ym] M1:=Zq (Zh (dz (ds:=[.int 3,.int 3,.int 7,.int 20]) rfl rfl) (Zh (Zh rfl rfl (jx (by decide))) rfl (gD (by decide))) (iY (Zo _ _ _) (by rw[ea,gn];exact hm3)));have s4:∃m:Nat,1<=m/\m<=29/\aK (e2 bh (e2 aY (e2 b8 (Za 2) (eC (.int 40))) (eC (.int 11))) (eC (.int 1))) (aA 3 (eC (.int 29))) (aW) [Ya (.ref d),Ya (.ref nr),Ya (.int v),Ya (.int (m0:Int)),Ym] M1= .nx [Ya (.ref d),Ya (.ref nr),Ya (.int v),Ya (.int (m:Int)),Ym] M1:=by
  by_cases z:v / 40 % 11=1
  .exact⟨29,by decide,by decide,(fX (M':=M1) (Zh (Zh (Zh rfl rfl (jx (by decide))) rfl (gD (by decide))) rfl (wF z))).trans (Zq rfl)⟩
  .exact⟨m0,hm1,lA 1 513128353935361 T1 hm2,cY (M':=M1) (Zh (Zh (Zh rfl rfl (jx (by decide))) rfl (gD (by decide))) rfl (BX z))⟩
 obtain⟨m,hm1,zZ,s4⟩:=s4;obtain⟨t,S1,at1,f1,f2,f3,f4,D1⟩:=Wa (M:=M1) (most:=m) (deep:=1+b) (dk.app _) (bL hnr _) nd hn hnm (lA 1 0x3c2b001d2b001 T1 zZ) hm1 (jd _ _) (by exact lA 1 0xf42405b3c2b0c1f42405b782b0c11 T1 ha:aq+60<1000000);have rG:mF cs c d M S1 aq at1 60:=mF.app (G:=[MO.lst [.int 3,.int 3,.int 7,.int 20]]) D1;have s5:aA 4 (Zz uW (Zb (Za 0) (Zb (Za 1) (Zb (e2 aN (eC (.int 1)) (e2 aY (e2 b8 (Za 2) (eC (.int 3))) (eC (.int 6)))) (Zb (Za 3) (Zf)))))) [Ya (.ref d),Ya (.ref nr),Ya (.int v),Ya (.int (m:Int)),Ym] M1= .nx [Ya (.ref d),Ya (.ref nr),Ya (.int v),Ya (.int (m:Int)),Ya (.tup t.flat)] S1:=by refine Zq (GR rfl rfl (c:=.int ((1+b:Nat):Int)) (Zh rfl (Zh (Zh rfl rfl (jx (by decide))) rfl (gD (by decide))) ?_) rfl f4);rw[uH,eb];congr 2
 have start:∀{o:O3},(Zr (aK (e2 bh (e2 aY (Za 2) (eC (.int 3))) (eC (.int 0))) (aQ (bY (Zb (eC (.str [115,101,116])) (Zb (e2 Zn (Za 1) (e2 aY (e2 b8 (Za 2) (eC (.int 440))) (eC (.int 12)))) (Zb (Za 4) (Zf)))))) (aW)) (Zr (aK (e2 bh (e2 aY (Za 2) (eC (.int 3))) (eC (.int 1))) (aQ (bY (Zb (eC (.str [112,117,116])) (Zb (Za 4) (Zb (Zz uW (Zb (Za 0) (Zb (Za 1) (Zb (e2 aN (eC (.int 1)) (e2 aY (e2 b8 (Za 2) (eC (.int 7))) (eC (.int 5)))) (Zb (Za 3) (Zf)))))) (Zf)))))) (aW)) (aQ (bY (Zb (eC (.str [116,101,108,108])) (Zb (Za 4) (Zf))))))) [Ya (.ref d),Ya (.ref nr),Ya (.int v),Ya (.int (m:Int)),Ya (.tup t.flat)] S1=o->Vp [Ya (.ref d),Ya (.ref nr),Ya (.int v),Ym,Ym] M=o:=λh=>(Zi s3).trans ((Zi s4).trans ((Zi s5).trans h));have m3:∀{k:Int},e2 aY (Za 2) (eC (.int 3)) [Ya (.ref d),Ya (.ref nr),Ya (.int v),Ya (.int (m:Int)),Ya (.tup t.flat)] S1= .ok (.int (v % 3)) S1:=Zh rfl rfl (gD (by decide));by_cases h0:v % 3=0
 .obtain⟨x,ex,hx⟩:=oJ (v / 440) 12 (by decide);have ex:v / 440 % 12=(x:Int):=ex;have hga:names[x]?=Ya (names[x]'(lB 2 72552035802787857 T1 hx hn)):=Y3 _;have hnS:S1[nr]?=Ya (.lst (names.map D.str)):=rG.kp.get hnr nd
  let r:Rw:=⟨jh,[names[x]'(lB 2 72552035802787857 T1 hx hn)],[t]⟩
  have goes:=start (o:=.rt (.tup r.deed) S1) (qW ((fX (M':=S1) (Zh (m3 (k:=0)) rfl (wF h0))).trans (di (gP (Zt rfl (Zt (Zh rfl (Zh (Zh rfl rfl (jx (by decide))) rfl (gD (by decide))) (iY hnS (d:=.str (names[x]'(lB 2 72552035802787857 T1 hx hn))) (by rw[ex,gn,lO,hga];rfl))) (Zt rfl rfl))) rfl))));obtain⟨S,e,D⟩:=Ib (aq:=aq) (x:=.tup r.deed) (n:=60) ld rG.dk rG.kp rG.le;exact⟨r,S,at1,ZwU (hnm _ (t8 _)) f1 (lB 2 0x61b0061b1111ac001 T1 f2 hb) (lB 2 0x322b001d2b1011001 T1 f3 zZ),⟨rfl,show jh≠eZ by decide,show jh≠eO by decide⟩,(jQ goes).trans e,D.mono (by decide)⟩
 have c0:=cY (M':=S1) (f:=aQ (bY (Zb (eC (.str [115,101,116])) (Zb (e2 Zn (Za 1) (e2 aY (e2 b8 (Za 2) (eC (.int 440))) (eC (.int 12)))) (Zb (Za 4) (Zf)))))) (Zh (m3 (k:=0)) (g:=eC (.int 0)) rfl (BX h0));by_cases h1:v % 3=1
 .obtain⟨u,S2,at2,g1,g2,g3,g4,D2⟩:=Wa (most:=m) (deep:=1+b2) rG.dk (rG.kp.get hnr nd) nd hn hnm (lA 1 0x3c2b001d2b001 T1 zZ) hm1 (jd _ _) (by have:=rG.le;exact lB 2 0xf42405b3c2b0c1f42405b782b1c113c2b1c001 T1 this ha);have D12:=rG.trans D2
  let r:Rw:=⟨oM,[],[t,u]⟩
  have goes:=start (o:=.rt (.tup r.deed) S2) ((Zi c0).trans (qW ((fX (M':=S1) (Zh (m3 (k:=0)) rfl (wF h1))).trans (di (gP (Zt rfl (Zt rfl (Zt (GR rfl rfl (c:=.int ((1+b2:Nat):Int)) (Zh rfl (Zh (Zh rfl rfl (jx (by decide))) rfl (gD (by decide))) (by rw[uH,Wf];congr 2)) rfl g4) rfl))) rfl)))));obtain⟨S,e,D⟩:=Ib (aq:=aq) (x:=.tup r.deed) (n:=120) ld D12.dk D12.kp D12.le;exact⟨r,S,at2,Zvi f1 g1 (lB 2 0x61b0061b1111ac001 T1 f2 hb) (lB 2 0x51b0051b1111ac001 T1 g2 hb2) (Yi f3 zZ) (Yi g3 zZ),⟨rfl,show oM≠eZ by decide,show oM≠eO by decide⟩,(jQ goes).trans e,D⟩
 .let r:Rw:=⟨oN,[],[t]⟩
  have goes:=start (o:=.rt (.tup r.deed) S1) ((Zi c0).trans ((Zi (cY (M':=S1) (Zh (m3 (k:=0)) rfl (BX h1)))).trans (di (gP rfl rfl))));obtain⟨S,e,D⟩:=Ib (aq:=aq) (x:=.tup r.deed) (n:=60) ld rG.dk rG.kp rG.le;exact⟨r,S,at1,Wd rfl (by decide) f1 (lB 2 0x61b0061b1111ac001 T1 f2 hb) (lB 2 0x322b001d2b1011001 T1 f3 zZ),⟨rfl,show oN≠eZ by decide,show oN≠eO by decide⟩,(jQ goes).trans e,D.mono (by decide)⟩
end
structure Fr where
 e:Nat
 o:Nat
 w:List Nat
 t:Sm
 out:List D
 ah:Option (List D)
noncomputable def u_:Option (List D)->D
 |none=>.non|some a=>.tup a
noncomputable abbrev Fr.obj(f:Fr):MO:=.lst [.str f.w,.tup f.t.flat,.ref f.o,u_ f.ah]
noncomputable abbrev ir(s:Nat)(fs:List Fr):List Nat:=s::fs.map (·.e)
structure cF(n0:Nat)(S:Store)(s dr:Nat)(cur:List D)(fs:List Fr):Prop where
 hs:S[s]?=Ya (.lst (fs.map λf=>D.ref f.e).reverse)
 he:∀f∈fs,S[f.e]?=Ya f.obj
 ho:∀f∈fs,S[f.o]?=Ya (.lst f.out)
 hc:S[dr]?=Ya (.lst cur)
 nd:(ir s fs).Nodup
 dj:∀a∈ir s fs,a≠dr/\∀f∈fs,a≠f.o
 lo:n0<=dr/\(∀a∈ir s fs,n0<=a)/\∀f∈fs,n0<=f.o
variable{cur':List D}
section
variable {n0:Nat} {S S':Store} {s dr:Nat} {cur:List D} {fs:List Fr}
theorem cF.frame(K:cF n0 S s dr cur fs)(h:∀a,n0<=a->a<S.length->S'[a]?=S[a]?):cF n0 S' s dr cur fs:=by
 have q:∀{i:Nat} {o:MO},S[i]?=Ya o->i<S.length:=λh=>(Ye.mp h).1;refine⟨?_,λf hf=>?_,λf hf=>?_,?_,K.nd,K.dj,K.lo⟩
 .rw[h s (K.lo.2.1 s Yc) (q K.hs)];exact K.hs
 .rw[h f.e (K.lo.2.1 f.e (Yd _ (qC hf))) (q (K.he f hf))];exact K.he f hf
 .rw[h f.o (K.lo.2.2 f hf) (q (K.ho f hf))];exact K.ho f hf
 .rw[h dr K.lo.1 (q K.hc)];exact K.hc
theorem cF.app(K:cF n0 S s dr cur fs)(G:Store):cF n0 (S++G) s dr cur fs:=K.frame λa _ h=>Yj h
theorem cF.kp(K:cF n0 S s dr cur fs)(hd:d<n0)(k:Kp d S S'):cF n0 S' s dr cur fs:=K.frame λa h1 h2=>k.old a h2 (λz=>lC 3 0x6211102011021 T1 z h1 hd)
theorem cF.lt(K:cF n0 S s dr cur fs):(∀a∈ir s fs,a<S.length)/\dr<S.length/\∀f∈fs,f.o<S.length:=by
 have q:∀{i:Nat} {o:MO},S[i]?=Ya o->i<S.length:=λh=>(Ye.mp h).1;refine⟨λa ha=>?_,q K.hc,λf hf=>q (K.ho f hf)⟩;rcases Yo.mp ha with e|e
 .rw[e];exact q K.hs
 .obtain⟨f,hf,rfl⟩:=dZ.mp e;exact q (K.he f hf)
theorem cF.now(K:cF n0 S s dr cur fs){bV:Nat}(h:S[bV]?=Ya (.lst cur'))(hl:n0<=bV)(hn:bV∉ir s fs):cF n0 S s bV cur' fs:=⟨K.hs,K.he,K.ho,h,K.nd,λa ha=>⟨λe=>hn (e▸ha),(K.dj a ha).2⟩,hl,K.lo.2⟩
theorem cF.els{f:Fr}(K:cF n0 S s dr cur (f::fs))(a:List D):cF n0 (S.set f.e (Fr.obj {f with ah:=Ya a})) s dr cur ({f with ah:=Ya a}::fs):=by
 have nd:=K.nd;simp only[ir,Ys,iR,Yo,not_or]at nd;have hm:f.e∈ir s (f::fs):=Yd _ Yc;have dj:=K.dj f.e hm;have o:∀x,f.e≠x->(S.set f.e (Fr.obj {f with ah:=Ya a}))[x]?=S[x]?:=λx h=>Yp h;refine⟨?_,λg hg=>?_,λg hg=>?_,?_,K.nd,λx hx=>⟨(K.dj x hx).1,λg hg=>?_⟩,K.lo.1,K.lo.2.1,λg hg=>?_⟩
 .rw[o s (dw nd.1.1)];exact K.hs
 .rcases Yo.mp hg with e|e
  .rw[e];exact Yw (K.lt.1 _ hm)
  .rw[o g.e λz=>nd.2.1 (z▸qC e)];exact K.he g (Yd _ e)
 .rcases Yo.mp hg with e|e
  .rw[e];show _=Ya (MO.lst f.out);exact(o f.o (dj.2 f Yc)).trans (K.ho f Yc)
  .rw[o g.o (dj.2 g (Yd _ e))];exact K.ho g (Yd _ e)
 .rw[o dr dj.1];exact K.hc
 .rcases Yo.mp hg with e|e
  .rw[e];exact(K.dj x hx).2 f Yc
  .exact(K.dj x hx).2 g (Yd _ e)
 .rcases Yo.mp hg with e|e
  .rw[e];exact K.lo.2.2 f Yc
  .exact K.lo.2.2 g (Yd _ e)
theorem cF.pop{f:Fr}(K:cF n0 S s dr cur (f::fs)){bV:Nat}(h:S[bV]?=Ya (.lst cur'))(hl:n0<=bV)(hn:bV∉ir s (f::fs)):cF n0 (S.set s (.lst (fs.map λf=>D.ref f.e).reverse)) s bV cur' fs:=by
 have nd:=K.nd;simp only[ir,Ys,iR,Yo,not_or]at nd;have hm:s∈ir s (f::fs):=Yc;have sub:∀a∈ir s fs,a∈ir s (f::fs):=λa ha=>by
  rcases Yo.mp ha with e|e
  .rw[e];exact Yc
  .exact Yd _ (Yd _ e)
 have o:∀x,s≠x->(S.set s (.lst (fs.map λf=>D.ref f.e).reverse))[x]?=S[x]?:=λx h=>Yp h;refine⟨Yw (K.lt.1 s hm),λg hg=>?_,λg hg=>?_,?_,iR.mpr ⟨nd.1.2,nd.2.2⟩,λx hx=>⟨λe=>hn (e▸sub x hx),λg hg=>(K.dj x (sub x hx)).2 g (Yd _ hg)⟩,hl,λa ha=>K.lo.2.1 a (sub a ha),λg hg=>K.lo.2.2 g (Yd _ hg)⟩
 .rw[o g.e λz=>nd.1.2 (z▸qC hg)];exact K.he g (Yd _ hg)
 .rw[o g.o ((K.dj s hm).2 g (Yd _ hg))];exact K.ho g (Yd _ hg)
 .rw[o bV λz=>hn (z▸hm)];exact h
theorem cF.push(K:cF n0 S s dr cur fs)(hn:n0<=S.length)(w:List Nat)(t:Sm):cF n0 (((S++[Fr.obj ⟨S.length,dr,w,t,cur,Ym⟩]).set s (.lst ((fs.map λf=>D.ref f.e).reverse++[.ref S.length])))++[.lst []]) s (S.length+1) [] (⟨S.length,dr,w,t,cur,Ym⟩::fs):=by
 have hlt:=K.lt;have hm:s∈ir s fs:=Yc;have hsl:=hlt.1 s hm
 let S1:=(S++[Fr.obj ⟨S.length,dr,w,t,cur,Ym⟩]).set s (.lst ((fs.map λf=>D.ref f.e).reverse++[.ref S.length]))
 have l1:S1.length=S.length+1:=by simp[S1]
 have o:∀x,s≠x->x<S.length->(S1++[MO.lst []])[x]?=S[x]?:=λx h hx=>by rw[Yj (by exact lC 2 564744212779025 T1 hx l1)];show((S++_).set s _)[x]?=_;rw[Yp h,Yj hx]
 have one:∀x∈ir s (⟨S.length,dr,w,t,cur,Ym⟩::fs),x=S.length\/x∈ir s fs:=λx hx=>by
  rcases Yo.mp hx with e|e
  .exact .inr (by rw[e];exact Yc)
  .rcases Yo.mp e with e|e
   .exact .inl e
   .exact .inr (Yd _ e)
 refine⟨?_,λg hg=>?_,λg hg=>?_,?_,?_,λx hx=>⟨?_,λg hg=>?_⟩,lB 1 43419439105 T1 hn,λx hx=>?_,λg hg=>?_⟩
 .show(S1++_)[s]?=_;rw[Yj (by exact lC 2 36361488941105 T1 l1 hsl)];show((S++_).set s _)[s]?=_;rw[Yw (by rw[Yf];exact Fx _ hsl)];simp
 .rcases Yo.mp hg with e|e
  .rw[e];show(S1++_)[S.length]?=_;rw[Yj (by exact lB 1 295813169 T1 l1)];show((S++_).set s _)[S.length]?=_;rw[Yp (by exactλz=>lB 2 26039357489 T1 z hsl)];exact Zo _ _ _
  .have hge:g.e∈ir s fs:=Yd _ (qC e);rw[o g.e (λz=>(iR.mp K.nd).1 (z▸qC e)) (hlt.1 _ hge)];exact K.he g e
 .rcases Yo.mp hg with e|e
  .rw[e];show(S1++_)[dr]?=Ya (.lst cur);rw[o dr (K.dj s hm).1 hlt.2.1];exact K.hc
  .rw[o g.o ((K.dj s hm).2 g e) (hlt.2.2 g e)];exact K.ho g e
 .show(S1++_)[S.length+1]?=_;rw[←l1];exact Zo _ _ _
 .have nd:=iR.mp K.nd;refine iR.mpr ⟨?_,iR.mpr ⟨?_,nd.2⟩⟩
  .intro z;rcases Yo.mp z with e|e
   .have e:s=S.length:=e;exact lB 2 26039357489 T1 e hsl
   .exact nd.1 e
  .intro z;have:=hlt.1 _ (Yd _ z);exact v6 _ this
 .rcases one x hx with e|e
  .exactλz=>lB 2 6666353492017 T1 z e
  .have:=hlt.1 x e;exactλz=>lB 2 6666085056561 T1 z this
 .rcases Yo.mp hg with z|z
  .rw[z];show x≠dr;rcases one x hx with e|e
   .have:=hlt.2.1;exactλz=>lC 3 0x6203121111021 T1 z this e
   .exact(K.dj x e).1
  .rcases one x hx with e|e
   .have:=hlt.2.2 g z;exactλz=>lC 3 0x6203121111021 T1 z this e
   .exact(K.dj x e).2 g z
 .rcases one x hx with e|e
  .exact lC 2 137741013041 T1 e hn
  .exact K.lo.2.1 x e
 .rcases Yo.mp hg with z|z
  .rw[z];exact K.lo.1
  .exact K.lo.2.2 g z
end
noncomputable def iu:List D->List Fr->List Pf
 |cur,[]=>[⟨jZ,[],[],cur⟩]|cur,f::fs=>⟨f.w,[.tup f.t.flat],f.ah.toList,cur⟩::iu f.out fs
theorem Zrf(cur:List D)(fs:List Fr):(iu cur fs).length=fs.length+1:=by
 induction fs generalizing cur with
 |nil=>rfl|cons f fs ih=>exact congrArg (· +1) (ih f.out)
def Fr.ok(f:Fr):Prop:=f.w=cD\/(f.w=fP/\f.ah=Ym)
theorem NQ(h:M.length<=n):eV M (.ref n) M'= .ok (.ref n) M':=by
 have hb:below M.length (.ref n)=false:=by show decide (n<M.length)=false;exact decide_eq_false (λz=>lB 2 25786650641 T1 z h)
 unfold eV;rw[hb];rfl
noncomputable abbrev Fr.pf(f:Fr)(cur:List D):Pf:=⟨f.w,[.tup f.t.flat],f.ah.toList,cur⟩
def Fr.done(f:Fr):Prop:=(f.w=cD/\∃a,f.ah=Ya a)\/(f.w=fP/\f.ah=Ym)
section
variable {n0:Nat} {S:Store} {s dr:Nat} {cur:List D} {fs:List Fr} {f:Fr}
theorem cF.top(K:cF n0 S s dr cur (f::fs))(hv:Za i env S= .ok (.ref s) S):e2 Zn (Za i) (e1 cL (eC (.int 1))) env S= .ok (.ref f.e) S:=by refine Zh hv (dM rfl (yF 1)) (iY K.hs ?_);rw[Ys,vJ];exact getD_last _ _
theorem cF.top0(K:cF n0 S s dr cur (f::fs))(hv:Za i env S= .ok (.ref s) S):e2 Zn (e2 Zn (Za i) (e1 cL (eC (.int 1)))) (eC (.int 0)) env S= .ok (.str f.w) S:=Zh (K.top hv) rfl (iY (K.he f Yc) (gn _ 0))
theorem cF.Jb(K:cF n0 S s dr cur (f::fs))(hv:Za i env S= .ok (.ref s) S):e2 Zn (e2 Zn (Za i) (e1 cL (eC (.int 1)))) (eC (.int 3)) env S= .ok (u_ f.ah) S:=Zh (K.top hv) rfl (iY (K.he f Yc) (gn _ 3))
theorem ZkY(K:cF n0 S s dr cur (f::fs))(hd:f.done)(hz:f.out.length<=1000):
  wZ [.ref s,.ref dr] S= .ok (.ref (S.length+1)) (S++[.lst [(f.pf cur).whole],.lst (f.out++[(f.pf cur).whole])]):=by
 let E:bK:=[Ya (.ref s),Ya (.ref dr),Ya (.str f.w),Ya (.tup f.t.flat),Ya (.ref f.o),Ya (u_ f.ah),Ym]
 have a1:qZ (e2 Zn (Za 0) (e1 cL (eC (.int 1)))) [2,3,4,5] [Ya (.ref s),Ya (.ref dr),Ym,Ym,Ym,Ym,Ym] S= .nx E S:=by unfold qZ;rw[K.top rfl];simp only[K.he f Yc];rfl
 have fin:∀{E':bK},E'=E.set 6 (Ya (f.pf cur).whole)->aQ (e2 aN (Za 4) (aV (Zb (Za 6) (Zf)))) E' S= .rt (.ref (S.length+1)) (S++[.lst [(f.pf cur).whole],.lst (f.out++[(f.pf cur).whole])]):=λh=>by subst h;refine di ((Zh rfl (dz (Zt rfl rfl) rfl) (Ia (bL (K.ho f Yc) _) (Zo _ _ _) (by simp;exact lA 1 0xdbb9f5b003e83b001 T1 hz))).trans ?_);simp
 refine(jQ (M':=S++[.lst [(f.pf cur).whole],.lst (f.out++[(f.pf cur).whole])]) (env:=[Ya (.ref s),Ya (.ref dr),Ym,Ym,Ym,Ym,Ym]) ?_).trans (NQ (v8 _));unfold Vr;refine(Zi a1).trans ?_;have t1:aC gC (Zb (Za 1) (Zf)) E S= .ok (.tup cur) S:=cC rfl (nZ K.hc);refine(Zi (Zq (d:=.tup [.str f.w,.tup f.t.flat,.tup cur]) (M':=S) (gP (Zt rfl (Zt rfl (Zt t1 rfl))) rfl))).trans ?_;rcases hd with⟨hw,a,ea⟩|⟨hw,ea⟩
 .refine(Zi ((fX (M':=S) (Zh rfl rfl (iz.trans (by rw[decide_eq_true hw])))).trans (Zq (d:=(f.pf cur).whole) (M':=S) ((gP (ds:=[.str f.w,.tup f.t.flat,u_ f.ah,.tup cur]) (Zt rfl (Zt rfl (Zt rfl (Zt (cC rfl (nZ K.hc)) rfl)))) rfl).trans ?_)))).trans (fin rfl);simp[Pf.whole,ea,u_]
 .refine(Zi (cY (M':=S) (Zh rfl rfl (iz.trans (by rw[decide_eq_false (by rw[hw];decide)]))))).trans (fin ?_);simp[E,Pf.whole,ea]
theorem cF.Eg(K:cF n0 S s dr cur fs)(hv:Za i env S= .ok (.ref s) S):e2 rC (Za i) (aV (Zf)) env S= .ok (.bl (!fs.isEmpty)) (S++[.lst []]):=by refine Zh hv (dz rfl rfl) ((ZrE (bL K.hs _) (Zo _ _ _)).trans ?_);cases fs<;>simp
noncomputable def Eh(way:Nat):List Fr->Bool
 |[]=>false|f::_=>decide (way=8)&&(decide (f.w=cD)&&f.ah.isNone)
noncomputable def isEnd(way:Nat):List Fr->Bool
 |[]=>false|f::_=>decide (7<way)&&(decide (f.w=fP)|| f.ah.isSome)
theorem Wg(a:Option (List D))(M:Store):o6 (u_ a) .non M= .ok (.bl a.isNone) M:=by cases a<;>simp[u_]
theorem Zvb(a:Option (List D))(M:Store):Gv (u_ a) .non M= .ok (.bl a.isSome) M:=by cases a<;>simp[u_]
theorem Zsj(K:cF n0 S s dr cur fs){way:Nat}(hv:∀M,Za 2 env M= .ok (.ref s) M)(h5:∀M,Za 5 env M= .ok (.int (way:Int)) M):
  ∃G,bN (e2 bh (Za 5) (eC (.int 8))) (bN (e2 rC (Za 2) (aV (Zf))) (bN (e2 bh (e2 Zn (e2 Zn (Za 2) (e1 cL (eC (.int 1)))) (eC (.int 0))) (eC (.str [119,104,101,110]))) (e2 o6 (e2 Zn (e2 Zn (Za 2) (e1 cL (eC (.int 1)))) (eC (.int 3))) (eC .non)))) env S= .ok (.bl (Eh way fs)) (S++G):=by
 by_cases h8:way=8
 .refine⟨[.lst []],?_⟩;rw[h_ (M1:=S) (Zh (h5 S) rfl (wF (qJ (iN [_] [] 1 0x81b08881b021 T1 h8) (iN [_] [] 1 9353239310385 T1 h8))))];cases fs with
  |nil=>exact lX (K.Eg (hv S))|cons f fs=>
   rw[h_ (K.Eg (hv S))];have K1:=K.app [MO.lst []];by_cases hw:f.w=cD
   .rw[h_ (Zh (K1.top0 (hv _)) rfl (iz.trans (by rw[decide_eq_true hw])))];refine(Zh (K1.Jb (hv _)) rfl (Wg f.ah _)).trans ?_;simp[Eh,h8,hw]
   .rw[lX (Zh (K1.top0 (hv _)) rfl (iz.trans (by rw[decide_eq_false hw])))];simp[Eh,hw]
 .refine⟨[],?_⟩;rw[lX (M1:=S) (Zh (h5 S) rfl (BX (λz=>iN [_] [] 2 0x681b01181b08b1 T1 z (QW (iN [_] [] 1 0x81b0081b08a1 T1 z) h8)))),kO];cases fs<;>simp[Eh,h8]
theorem ZqJ(K:cF n0 S s dr cur fs){way:Nat}(hv:∀M,Za 2 env M= .ok (.ref s) M)(h5:∀M,Za 5 env M= .ok (.int (way:Int)) M):
  ∃G,bN (e2 cX (Za 5) (eC (.int 7))) (bN (e2 rC (Za 2) (aV (Zf))) (fH (e2 bh (e2 Zn (e2 Zn (Za 2) (e1 cL (eC (.int 1)))) (eC (.int 0))) (eC (.str [119,104,105,108,101]))) (e2 Gv (e2 Zn (e2 Zn (Za 2) (e1 cL (eC (.int 1)))) (eC (.int 3))) (eC .non)))) env S= .ok (.bl (isEnd way fs)) (S++G):=by
 by_cases h8:7<way
 .refine⟨[.lst []],?_⟩;rw[h_ (M1:=S) (Zh (h5 S) rfl (by rw[jP,decide_eq_true (by exact iN [_] [] 1 9284528577297 T1 h8)]))];cases fs with
  |nil=>exact lX (K.Eg (hv S))|cons f fs=>
   rw[h_ (K.Eg (hv S))];have K1:=K.app [MO.lst []];by_cases hw:f.w=fP
   .rw[GX (Zh (K1.top0 (hv _)) rfl (iz.trans (by rw[decide_eq_true hw])))];simp[isEnd,h8,hw]
   .rw[n6 (Zh (K1.top0 (hv _)) rfl (iz.trans (by rw[decide_eq_false hw])))];refine(Zh (K1.Jb (hv _)) rfl (Zvb f.ah _)).trans ?_;simp[isEnd,h8,hw]
 .refine⟨[],?_⟩;rw[lX (M1:=S) (Zh (h5 S) rfl (by rw[jP,decide_eq_false (by exactλz=>iN [_] [] 2 0x6071b510871b91 T1 z h8)])),kO];cases fs<;>simp[isEnd,h8]
end
structure ZvR(n0:Nat)(cs:List Int)(c d:Nat)(S S':Store)(s n' bV:Nat)(r:Rw)(cur:List D)(fs:List Fr)(cur':List D)(fs':List Fr)(at' k:Nat):Prop where
 out:S'[n']?=Ya (.lst [.str (glue [32] r.words),.ref bV])
 iG:cF n0 S' s bV cur' fs'
 dk:fc cs c d at' S'
 ok:cQ r
 st:jA r (iu cur fs)=Ya (iu cur' fs')
 fr:∀f∈fs',f.ok
 le:fs'.length<=12
 bd:cur'.length<=k+1/\∀f∈fs',f.out.length<=k+1
 old:∀a,a<S.length->a≠d->a∉ir s fs->S'[a]?=S[a]?
 len:S.length<=S'.length
theorem ZsH:cQ ⟨eZ,[],[]⟩:=⟨rfl,rfl,(λx h=>nomatch h),⟨(λt h=>nomatch h),by decide,by decide⟩,by decide⟩
theorem Zq9:cQ ⟨eO,[],[]⟩:=⟨rfl,rfl,(λx h=>nomatch h),⟨(λt h=>nomatch h),by decide,by decide⟩,by decide⟩
variable{cur:List D}
theorem Zm7{f:Fr}{fs:List Fr}(hw:f.w=cD)(ha:f.ah=Ym):jA ⟨eZ,[],[]⟩ (iu cur (f::fs))=Ya (iu [] ({f with ah:=Ya cur}::fs)):=by show stepK _ (f.pf cur) (iu f.out fs)=_;unfold stepK;rw[if_neg (by decide),if_pos rfl,if_pos ⟨hw,by simp[ha]⟩];rfl
theorem Wh(fs:List Fr)(x:List D)(w:D):∃k ks,iu x fs=k::ks/\k.cur=x/\iu (x++[w]) fs=⟨k.h,k.hd,k.cl,k.cur++[w]⟩::ks:=by
 cases fs with
 |nil=>exact⟨_,_,rfl,rfl,rfl⟩|cons f fs=>exact⟨_,_,rfl,rfl,rfl⟩
theorem ZmN{f:Fr}{fs:List Fr}(hd:f.done)(hz:f.out.length<1000):jA ⟨eO,[],[]⟩ (iu cur (f::fs))=Ya (iu (f.out++[(f.pf cur).whole]) fs):=by
 obtain⟨k,ks,e1,e2,e3⟩:=Wh fs f.out (f.pf cur).whole;show stepK _ (f.pf cur) (iu f.out fs)=_;rw[e1,e3];unfold stepK;rw[if_neg (by decide),if_neg (by decide),if_pos rfl];refine if_pos ⟨?_,(show 1<100 by decide),?_,by rw[e2];exact hz⟩
 .rcases hd with⟨hw,a,ea⟩|⟨hw,ea⟩
  .show tM f.w=((f.ah.toList.length+1:Nat):Int);rw[hw,ea];rfl
  .show tM f.w=((f.ah.toList.length+1:Nat):Int);rw[hw,ea];rfl
 .show f.ah.toList.length<100;cases f.ah with
  |none=>exact(show 0<100 by decide)|some _=>exact(show 1<100 by decide)
theorem ZnC{fs:List Fr}(hp:NP r)(hz:cur.length<1000):jA r (iu cur fs)=Ya (iu (cur++[.tup r.deed]) fs):=by obtain⟨k,ks,e1,e2,e3⟩:=Wh fs cur (.tup r.deed);rw[e1,e3];show stepK r k ks=_;unfold stepK;rw[if_neg (by rw[hp.b];decide),if_neg hp.e,if_neg hp.n];exact if_pos (by rw[e2];exact hz)
theorem ZqS{w:List Nat}{t:Sm}{fs:List Fr}{o:Nat}(hw:kE w=true)(hl:fs.length<12):jA ⟨w,[],[t]⟩ (iu cur fs)=Ya (iu [] (⟨e,o,w,t,cur,Ym⟩::fs)):=by
 obtain⟨k,ks,e1,_,_⟩:=Wh fs cur .non;have hk:ks.length=fs.length:=by have:=Zrf cur fs;rw[e1,Yk]at this;exact Y1 (lB 1 1102226000929 T1 this) (lB 1 71433849905 T1 this)
 rw[show iu [] (⟨e,o,w,t,cur,Ym⟩::fs)=⟨w,[.tup t.flat],[],[]⟩::iu cur fs from rfl,e1];show stepK _ k ks=_;unfold stepK;rw[if_pos hw];exact if_pos (lB 2 0xc1ba0c0c1b1111021 T1 hk hl)
section
variable {n0:Nat} {S:Store} {s dr:Nat} {cur:List D} {fs:List Fr} {cs:List Int} {c d aq:Nat}
theorem Ig{L:List Nat}(h:∀a∈L,a<n){x:Nat}(hx:n<=x):x∉L:=λz=>by have:=h x z;exact lB 2 25786650641 T1 this hx
theorem len_app(M G:Store):M.length<=(M++G).length:=by rw[Yf];exact jd _ _
theorem Wi{q q':D->D->Store->R3 D}{h:E3}{x y z r:D}(h1:f env M= .ok x M)(h2:g env M= .ok y M)(h3:q x y M= .ok (.bl true) M)(h4:h env M= .ok z M)(h5:q' y z M= .ok r M):qm q q' f g h env M= .ok r M:=by simp only[qm,h1,h2,h3,h4,h5,R3.bind]
theorem Ztn{q q':D->D->Store->R3 D}{h:E3}{x y:D}(h1:f env M= .ok x M)(h2:g env M= .ok y M)(h3:q x y M= .ok (.bl false) M):qm q q' f g h env M= .ok (.bl false) M:=by simp only[qm,h1,h2,h3,R3.bind]
theorem Zuy{v x0 x1 x2 x3:D}(h:M[n]?=Ya (.lst [x0,x1,x2,x3])):Tw v (.ref n) (.int 3) M= .ok .non (M.set n (.lst [x0,x1,x2,v])):=by simp only[Zkx,h];rfl
theorem Zwp{nr k:Nat}(K:cF n0 S s dr cur fs)(dk:fc cs c d aq S)(hnr:S[nr]?=Ya (.lst (names.map D.str)))(nd:nr≠d)(hn:names.length=12)(hnm:∀x∈names,fZ x)(hd0:c<n0/\d<n0)(hn0:n0<=S.length)(Ih:∀f∈fs,f.ok)(hlen:fs.length<=12)(hb:cur.length<=k/\∀f∈fs,f.out.length<=k)(hk:k<900)(ha:aq+200<1000000):
  ∃(r:Rw) (S':Store) (n' bV:Nat) (cur':List D) (fs':List Fr) (at':Nat),zy [.ref d,.ref nr,.ref s,.ref dr] S= .ok (.ref n') S'/\ZvR n0 cs c d S S' s n' bV r cur fs cur' fs' at' k/\at'<=aq+121:=by
 obtain⟨v,S1,hv,D1,xu,l1⟩:=dk.draw (lA 1 0xf42405b01f42405bc82b0c11 T1 ha);have K1:=K.kp hd0.2 xu;obtain⟨way,ew,Afb⟩:=oJ v 10 (by decide);have ew:v % 10=(way:Int):=ew
 let E:bK:=[Ya (.ref d),Ya (.ref nr),Ya (.ref s),Ya (.ref dr),Ya (.int v),Ya (.int (way:Int)),Ym,Ym,Ym]
 obtain⟨GA,cA⟩:=Zsj K1 (env:=E) (way:=way) (λ_=>rfl) (λ_=>rfl);have h0:∀{rest:S3} {o:O3},rest E S1=o->Zr (aA 4 (Zz mz (Zb (Za 0) (Zf)))) (Zr (aA 5 (e2 aY (Za 4) (eC (.int 10)))) rest) [Ya (.ref d),Ya (.ref nr),Ya (.ref s),Ya (.ref dr),Ym,Ym,Ym,Ym,Ym] S=o:=λh=>(Zi (Zq (dJ rfl hv))).trans ((Zi (Zq (d:=.int (way:Int)) (Zh rfl rfl ((gD (by decide)).trans (by rw[ew]))))).trans h);have fin:∀{n':Nat} {S':Store},S.length<=n'->zx [Ya (.ref d),Ya (.ref nr),Ya (.ref s),Ya (.ref dr),Ym,Ym,Ym,Ym,Ym] S= .rt (.ref n') S'->zy [.ref d,.ref nr,.ref s,.ref dr] S= .ok (.ref n') S':=λhl h=>(jQ h).trans (NQ hl)
 let S2:=S1++GA
 have K2:cF n0 S2 s dr cur fs:=K1.app GA;have D2:fc cs c d (aq+1) S2:=D1.app GA;have X6:∀a,a<S.length->a≠d->S2[a]?=S[a]?:=λa h1 h2=>by show(S1++GA)[a]?=_;rw[Yj (by exact lC 2 2203623428113 T1 h1 l1)];exact xu.old a h1 h2
 have z_:S.length<=S2.length:=by show _<=(S1++GA).length;rw[Yf];exact lC 1 8792313905 T1 l1
 cases hA:Eh way fs with
 | true=>
  rw[hA]at cA;cases fs with
  |nil=>cases hA|cons f fs=>
   simp only[Eh,Y6,decide_eq_true_eq,Option.isNone_iff_eq_none]at hA;obtain⟨_,hw,hah⟩:=hA;have K3:=K2.els cur
   let S3:=S2.set f.e (Fr.obj {f with ah:=Ya cur})
   have hm:f.e∈ir s (f::fs):=Yd _ Yc;have l3:S3.length=S2.length:=t_ ..
   let S4:=S3++[MO.lst []]++[MO.lst [.str eZ,.ref S3.length]]
   have g0:S4[S3.length]?=Ya (.lst []):=bL (Zo _ _ _) _;have K4:cF n0 S4 s S3.length [] ({f with ah:=Ya cur}::fs):=((K3.app _).app _).now g0 (lD 3 0x30230112011031 T1 l3 z_ hn0) (Ig K3.lt.1 (Yt _));have p1:sV (e2 Zn (Za 2) (e1 cL (eC (.int 1)))) (eC (.int 3)) (aC gC (Zb (Za 3) (Zf))) E S2= .nx E S3:=p6 (d:=.non) (Zx3 (cC rfl (nZ K2.hc)) (K2.top rfl) rfl (Zuy (K2.he f Yc)));have r1:aQ (aV (Zb (eC (.str [101,108,115,101])) (Zb (aV (Zf)) (Zf)))) E S3= .rt (.ref (S3.length+1)) S4:=di ((dz (M':=S3++[.lst []]) (ds:=[.str eZ,.ref S3.length]) (Zt rfl (Zt (dz rfl rfl) rfl)) rfl).trans (by rw[Yf];rfl));refine⟨⟨eZ,[],[]⟩,S4,S3.length+1,S3.length,[],_,aq+1,fin (lC 2 0xa0c2012011031 T1 l3 z_) ?_,⟨?_,K4,((D2.put (by have:=K2.lo.2.1 _ hm;exactλz=>lC 3 0x6211102011021 T1 z this hd0.2) (by have:=K2.lo.2.1 _ hm;exactλz=>lC 3 0x6211102011021 T1 z this hd0.1) _).app _).app _,ZsH,Zm7 hw hah,?_,hlen,⟨fC _,λg hg=>?_⟩,λa h1 h2 h3=>?_,?_⟩,lA 0 520413290688 T1⟩
   .unfold zx;exact h0 (qW ((fX cA).trans ((Zi p1).trans r1)))
   .have:=Zo (S3++[MO.lst []]) (MO.lst [.str eZ,.ref S3.length]) [];rw[Yf]at this;exact this
   .intro g hg;rcases Yo.mp hg with e|e
    .rw[e];exact .inl hw
    .exact Ih g (Yd _ e)
   .rcases Yo.mp hg with e|e
    .rw[e];exact rZ (hb.2 f Yc)
    .exact rZ (hb.2 g (Yd _ e))
   .show(S3++[MO.lst []]++[MO.lst [.str eZ,.ref S3.length]])[a]?=_;rw[gM,Yj (by exact lD 3 0x201310132311011 T1 h1 l3 z_)];exact(Yp λ(z:f.e=a)=>h3 (z▸hm)).trans (X6 a h1 h2)
   .show S.length<=(S3++[MO.lst []]++[MO.lst [.str eZ,.ref S3.length]]).length;rw[Yf,Yf];exact lE 2 0x430cc2012011031 T1 l3 z_
 | false=>
  rw[hA]at cA;obtain⟨GB,cB⟩:=ZqJ K2 (env:=E) (way:=way) (λ_=>rfl) (λ_=>rfl)
  let S3:=S2++GB
  have K3:cF n0 S3 s dr cur fs:=K2.app GB;have D3:fc cs c d (aq+1) S3:=D2.app GB;have jF:S.length<=S3.length:=by show _<=(S2++GB).length;rw[Yf];exact lC 1 9059700737 T1 z_
  have old3:∀a,a<S.length->a≠d->S3[a]?=S[a]?:=λa h1 h2=>by show(S2++GB)[a]?=_;rw[Yj (Y8 h1 z_)];exact X6 a h1 h2
  have X7:S3[nr]?=Ya (.lst (names.map D.str)):=(old3 nr (Ye.mp hnr).1 nd).trans hnr;cases hB:isEnd way fs with
  | true=>
   rw[hB]at cB;cases fs with
   |nil=>cases hB|cons f fs=>
    simp only[isEnd,Y6,yh,decide_eq_true_eq]at hB;have hf:=Ih f Yc;have hdone:f.done:=by
     rcases hB.2 with z|z
     .rcases hf with q|q
      .rw[z]at q;exact absurd q (by decide)
      .exact .inr q
     .obtain⟨a,ea⟩:=Je.mp z;rcases hf with q|q
      .exact .inl ⟨q,a,ea⟩
      .rw[q.2]at ea;cases ea
    have hol:=hb.2 f Yc;have ce:=ZkY K3 hdone (lB 2 0x3e83b003843b1111001 T1 hol hk)
    let W:=(f.pf cur).whole
    let S4:=S3++[MO.lst [W],MO.lst (f.out++[W])]
    have K4:=K3.app [MO.lst [W],MO.lst (f.out++[W])];have g1:S4[S3.length+1]?=Ya (.lst (f.out++[W])):=by show(S3++_)[_]?=_;rw[sY];rfl
    have K5:=K4.pop g1 (lC 2 0xa1c2002011001 T1 jF hn0) (Ig K3.lt.1 (v8 _))
    let S5:=S4.set s (.lst (fs.map λf=>D.ref f.e).reverse)
    have l5:S5.length=S3.length+2:=by show(S4.set s _).length=_;rw[t_];show(S3++_).length=_;rw[Yf];rfl
    let S6:=S5++[MO.lst [.str eO,.ref (S3.length+1)]]
    have Wj:S4[s]?=Ya (.lst ((fs.map λf=>D.ref f.e).reverse++[D.ref f.e])):=by rw[K4.hs,Ys,vJ]
    refine⟨⟨eO,[],[]⟩,S6,S5.length,S3.length+1,f.out++[W],fs,aq+1,fin (lC 2 9026995324305457 T1 l5 jF) ?_,⟨Zo _ _ _,K5.app _,((D3.app _).put (by have:=K3.lo.2.1 s Yc;exactλz=>lC 3 0x6211102011021 T1 z this hd0.2) (by have:=K3.lo.2.1 s Yc;exactλz=>lC 3 0x6211102011021 T1 z this hd0.1) _).app _,Zq9,ZmN hdone (lB 2 0x3e83b013843b1111001 T1 hol hk),λg hg=>Ih g (Yd _ hg),by rw[Yk]at hlen;exact lA 1 0xc1b00c1ba0c01 T1 hlen,⟨by rw[Yf];exact pO hol,λg hg=>rZ (hb.2 g (Yd _ hg))⟩,λa h1 h2 h3=>?_,?_⟩,lA 0 520413290688 T1⟩
    .unfold zx;refine h0 ((Zi (cY cA)).trans (qW ((fX cB).trans ((Zi (Zq (qY rfl rfl ce))).trans ((Zi (p6 (Nu rfl Wj))).trans ?_)))));exact di (dz (Zt rfl (Zt rfl rfl)) rfl)
    .show(S5++_)[a]?=_;rw[Yj (by exact lD 3 0x201310121b3c2311011 T1 h1 l5 jF)];refine(Yp λ(z:s=a)=>h3 (z▸Yc)).trans ?_;show(S3++_)[a]?=_;rw[Yj (Y8 h1 jF)];exact old3 a h1 h2
    .show S.length<=(S5++_).length;rw[Yf];omega
  | false=>
   rw[hB]at cB;by_cases hC:(5<=way/\way<8)/\fs.length<12
   .have ch:bN (qm o5 fQ (eC (.int 5)) (Za 5) (eC (.int 8))) (e2 fQ (aC bx (Zb (Za 2) (Zf))) (eC (.int 12))) E S3= .ok (.bl true) S3:=by
     have c1:qm o5 fQ (eC (.int 5)) (Za 5) (eC (.int 8)) E S3= .ok (.bl true) S3:=by exact Wi rfl rfl (Lh (by omega)) rfl (by rw[nY,decide_eq_true (by omega)])
     rw[h_ c1];exact Zh (cC rfl (m5 K3.hs)) rfl (by rw[nY,decide_eq_true (by simp;exact iN [_] [] 1 0xc1b089c1b011 T1 hC.2)])
    obtain⟨b,eb,hb6⟩:=oJ (v / 30) 6 (by decide);have eb:v / 30 % 6=(b:Int):=eb;obtain⟨m,em,hm9⟩:=oJ (v / 10) 9 (by decide);have em:v / 10 % 9=(m:Int):=em;obtain⟨t,S4,NT,f1,f2,f3,f4,D4⟩:=Wa (M:=S3) (most:=1+m) (deep:=1+b) D3 X7 nd hn hnm (lA 1 0x3c2b0ac091b011 T1 hm9) (jd _ _) (jd _ _) (lA 1 0xf42405b3c2ba0cc1f42405bc82b0c11 T1 ha);have K4:=K3.kp hd0.2 D4.kp;obtain⟨w,hw1,hw2⟩:∃w:List Nat,[D.str cD,.str cD,.str fP][way-5]?=Ya (.str w)/\(w=cD\/w=fP):=by
     match way-5,(show way-5<3 by exact lB 2 0x31b11051b1c2181b011 T1 hC.1.2 (Y9 hC.1.1))with
     |0,_=>exact⟨cD,rfl,.inl rfl⟩|1,_=>exact⟨cD,rfl,.inl rfl⟩|2,_=>exact⟨fP,rfl,.inr rfl⟩
    let S5:=S4++[MO.lst [.str cD,.str cD,.str fP]]
    have K5:cF n0 S5 s dr cur fs:=K4.app _;have Aa:S3.length<=S5.length:=Yi D4.kp.len (len_app S4 _);have K6:=K5.push (lD 3 85606880155602945 T1 Aa jF hn0) w t
    let F:Fr:=⟨S5.length,dr,w,t,cur,Ym⟩
    let S6:=(S5++[F.obj]).set s (.lst ((fs.map λf=>D.ref f.e).reverse++[.ref S5.length]))
    have l6:S6.length=S5.length+1:=by show((S5++_).set s _).length=_;rw[t_,Yf];rfl
    let S7:=S6++[MO.lst []]
    have nG:cQ ⟨w,[],[t]⟩:=by
     rcases hw2 with rfl|rfl
     .exact Wd rfl (by decide) f1 (lB 2 0x61b0061b1111ac001 T1 f2 hb6) (lB 2 0x322b0091b1111ac001 T1 f3 hm9)
     .exact Wd rfl (by decide) f1 (lB 2 0x61b0061b1111ac001 T1 f2 hb6) (lB 2 0x322b0091b1111ac001 T1 f3 hm9)
    let S8:=S7++[MO.lst [.str (glue [32] (Rw.words ⟨w,[],[t]⟩)),.ref (S5.length+1)]]
    have wbl:kE w=true:=by rcases hw2 with rfl|rfl <;>rfl
    refine⟨⟨w,[],[t]⟩,S8,S7.length,S5.length+1,[],F::fs,NT,fin (by show _<=(S6++_).length;rw[Yf];exact lE 3 0x40c3023011201a1c031 T1 l6 Aa jF) ?_,⟨Zo _ _ _,K6.app _,(((((D4.dk.app _).app _).put (by have:=K3.lo.2.1 s Yc;exactλz=>lC 3 0x6211102011021 T1 z this hd0.2) (by have:=K3.lo.2.1 s Yc;exactλz=>lC 3 0x6211102011021 T1 z this hd0.1) _).app _).app _),nG,ZqS wbl hC.2,λg hg=>?_,by rw[Yk];exact lA 1 0xc1ba0c0c1b011 T1 hC.2,⟨fC _,λg hg=>?_⟩,λa h1 h2 h3=>?_,?_⟩,by have:=D4.le;exact lB 1 0x792b1c003c2ba1cc001 T1 this⟩
    .unfold zx;refine h0 ((Zi (cY cA)).trans ((Zi (cY cB)).trans (qW ((fX ch).trans ?_))));refine(Zi (Zq (d:=.tup t.flat) (M':=S4) (GR rfl rfl (c:=.int ((1+b:Nat):Int)) (Zh rfl (Zh (Zh rfl rfl (jx (by decide))) rfl (gD (by decide))) (by rw[uH,eb];congr 2)) (d:=.int ((1+m:Nat):Int)) (Zh rfl (Zh (Zh rfl rfl (jx (by decide))) rfl (gD (by decide))) (by rw[uH,em];congr 2)) f4))).trans ?_;refine(Zi (Zq (d:=.str w) (M':=S5) (Zh (dz (ds:=[.str cD,.str cD,.str fP]) rfl rfl) (b:=.int ((way-5:Nat):Int)) (Zh rfl rfl (by rw[Ti];congr 2;exact qJ (iN [_,_] [] 1 0x1851b08f851b1c001 T1 (gO _ _)) (iN [_,_] [] 1 0x51b18f088151b0c21 T1 (Y9 hC.1.1)))) (iY (Zo _ _ _) (by rw[gn];exact hw1))))).trans ?_;refine(Zi (nF (M':=S5) (M2:=S5++[F.obj]) (d:=.ref S5.length) rfl K5.hs (dz (ds:=[.str w,.tup t.flat,.ref dr,.non]) rfl rfl) (bL K5.hs _) (by simp only[Ff,Yu];exact rY (show fs.length<=12 by exact Az hC.2) (by decide)))).trans ?_;refine di ((dz (M':=S7) (ds:=[.str (glue [32] (Rw.words ⟨w,[],[t]⟩)),.ref (S5.length+1)]) (Zt (dJ (M1:=S6) (a:=.tup (Rw.deed ⟨w,[],[t]⟩)) (gP rfl rfl) (ZmK nG S6)) (Zt ((dz rfl rfl).trans (by rw[l6])) rfl)) rfl))
    .rcases Yo.mp hg with e|e
     .rw[e];rcases hw2 with q|q
      .exact .inl q
      .exact .inr ⟨q,rfl⟩
     .exact Ih g e
    .rcases Yo.mp hg with e|e
     .rw[e];exact rZ hb.1
     .exact rZ (hb.2 g e)
    .show(S7++_)[a]?=_;rw[Yj (by show a<(S6++_).length;rw[Yf];exact lF 4 0x52c0141013401a3c2311011 T1 h1 l6 Aa jF)];show(S6++_)[a]?=_;rw[Yj (by exact lE 4 0x20141013401a3c2311011 T1 h1 l6 Aa jF)];refine(Yp λ(z:s=a)=>h3 (z▸Yc)).trans ?_;rw[Yj (by exact lD 3 0x301210132011011 T1 h1 Aa jF)];show(S4++_)[a]?=_;rw[Yj (by have:=D4.kp.len;exact lD 3 81349571939209217 T1 this h1 jF)];exact(D4.kp.old a (Y8 h1 jF) h2).trans (old3 a h1 h2)
    .show S.length<=(S7++_).length;rw[Yf];show S.length<=(S6++_).length+_;rw[Yf];exact lF 3 0x540cc3023011201a1c031 T1 l6 Aa jF
   .have ch:∃G,bN (qm o5 fQ (eC (.int 5)) (Za 5) (eC (.int 8))) (e2 fQ (aC bx (Zb (Za 2) (Zf))) (eC (.int 12))) E S3= .ok (.bl false) (S3++G):=by
     refine⟨[],?_⟩;rw[kO];by_cases q1:5<=way
     .by_cases q2:way<8
      .have c1:qm o5 fQ (eC (.int 5)) (Za 5) (eC (.int 8)) E S3= .ok (.bl true) S3:=by
        exact Wi rfl rfl (Lh (iN [_] [] 1 9147072715521 T1 q1)) rfl (by rw[nY,decide_eq_true (by exact iN [_] [] 1 0x81b08981b011 T1 q2)])
       rw[h_ c1];exact Zh (cC rfl (m5 K3.hs)) rfl (by rw[nY,decide_eq_false (by simp;omega)])
      .have c1:qm o5 fQ (eC (.int 5)) (Za 5) (eC (.int 8)) E S3= .ok (.bl false) S3:=by
        exact Wi rfl rfl (Lh (iN [_] [] 1 9147080880209 T1 q2)) rfl (by rw[nY,decide_eq_false (by exactλz=>iN [_] [] 2 0x681b05181b0891 T1 z q2)])
       exact lX c1
     .have c1:qm o5 fQ (eC (.int 5)) (Za 5) (eC (.int 8)) E S3= .ok (.bl false) S3:=by
       exact Ztn rfl rfl (Zzn (λz=>iN [_] [] 2 0x6051b410851b81 T1 z q1))
      exact lX c1
    obtain⟨GC,ch⟩:=ch
    let vf:=S3++GC
    obtain⟨r,S4,NT,nG,rpl,f4,D4⟩:=ZsW (M:=vf) (D3.app _) (bL X7 _) nd hn hnm (lA 1 0xf42405b782ba0cc1f42405bc82b0c11 T1 ha) (v / 10);have K4:=(K3.app GC).kp hd0.2 D4.kp;have Ez:S3.length<=S4.length:=Yi (len_app S3 GC) D4.kp.len
    let S5:=S4++[MO.lst [.tup r.deed]]++[MO.lst (cur++[.tup r.deed])]
    have g5:S5[S4.length+1]?=Ya (.lst (cur++[.tup r.deed])):=by have:=Zo (S4++[MO.lst [.tup r.deed]]) (MO.lst (cur++[.tup r.deed])) [];rw[Yf]at this;exact this
    have K5:cF n0 S5 s (S4.length+1) (cur++[.tup r.deed]) fs:=((K4.app _).app _).now g5 (lD 3 0xa1c30230102011001 T1 Ez jF hn0) (Ig K4.lt.1 (v8 _))
    let S6:=S5++[MO.lst [.str (glue [32] r.words),.ref (S4.length+1)]]
    have hbc:=hb.1;have l5:S5.length=S4.length+2:=by show(S4++_++_).length=_;rw[Yf,Yf];rfl
    refine⟨r,S6,S5.length,S4.length+1,cur++[.tup r.deed],fs,NT,fin (lD 3 0x302301120121b1c031 T1 l5 Ez jF) ?_,⟨Zo _ _ _,K5.app _,((D4.dk.app _).app _).app _,nG,ZnC rpl (lB 2 0x3e83b013843b1111001 T1 hbc hk),Ih,hlen,⟨by rw[Yf];exact pO hbc,λg hg=>rZ (hb.2 g hg)⟩,λa h1 h2 h3=>?_,?_⟩,by have:=D4.le;exact lB 1 0x792b1c00782ba1cc001 T1 this⟩
    .unfold zx;refine h0 ((Zi (cY cA)).trans ((Zi (cY cB)).trans ((Zi (cY ch)).trans ?_)));refine(Zi (Zq (d:=.tup r.deed) (M':=S4) (Zvd rfl rfl (Zh rfl rfl (jx (by decide))) f4))).trans ?_;refine di (dz (M':=S5) (Zt (dJ rfl (ZmK nG S4)) (Zt ((Zh rfl (dz (Zt rfl rfl) rfl) (Ia (bL K4.hc _) (Zo _ _ _) (by simp;exact lB 2 0xdbb9f5b003843b1111001 T1 hbc hk))).trans (by rw[Yf];rfl)) rfl)) rfl)
    .show(S5++_)[a]?=_;rw[Yj (by exact lE 4 0x2014101340121b3c2311011 T1 h1 l5 Ez jF)];show(S4++_++_)[a]?=_;rw[gM,Yj (by exact lD 3 0x301210132011011 T1 h1 Ez jF)];refine(D4.kp.old a (by show a<(S3++GC).length;rw[Yf];exact lD 2 892808290439185 T1 h1 jF) h2).trans ?_;show(S3++GC)[a]?=_;rw[Yj (Y8 h1 jF)];exact old3 a h1 h2
    .show S.length<=(S5++_).length;rw[Yf];exact lE 3 0x40c302301120121b1c031 T1 l5 Ez jF
end
noncomputable def rH:Nat->List Fr->List Fr
 |_,[]=>[]|n,f::L=>{f with e:=n}::rH (n+1) L
noncomputable def Fr.strip(f:Fr):List Nat×Sm×List D×Option (List D):=(f.w,f.t,f.out,f.ah)
theorem Zq5:∀(n:Nat) (L:List Fr),(rH n L).map (·.e)=vM n L.length
 |_,[]=>rfl|n,_::L=>by rw[rH,Ys,Zq5 (n+1) L,Yk,Ylu]
theorem ZkG:∀(n:Nat) (L:List Fr),(rH n L).map Fr.strip=L.map Fr.strip
 |_,[]=>rfl|n,_::L=>by rw[rH,Ys,ZkG (n+1) L];rfl
theorem Zpq:∀(n:Nat) (L:List Fr),∀g∈rH n L,∃f∈L,∃j,L[j]?=Ya f/\g={f with e:=n+j}
 |_,[],_,h=>nomatch h|n,f::L,g,h=>by
  rcases Yo.mp h with e|e
  .exact⟨f,Yc,0,rfl,e⟩
  .obtain⟨f',h1,j,h2,h3⟩:=Zpq (n+1) L g e;exact⟨f',Yd _ h1,j+1,h2,by rw[h3,qI,mH 1 j]⟩
theorem Zjn:∀(fs gs:List Fr) (cur:List D),fs.map Fr.strip=gs.map Fr.strip->iu cur fs=iu cur gs
 |[],[],_,_=>rfl|[],_::_,_,h=>nomatch h|_::_,[],_,h=>nomatch h|f::fs,g::gs,cur,h=>by have h1:f.strip=g.strip:=(je h).1;have h2:=(je h).2;simp only[Fr.strip,RK]at h1;show f.pf cur::iu f.out fs=g.pf cur::iu g.out gs;rw[Zjn fs gs f.out h2,h1.2.2.1];simp only[Fr.pf,h1.1,h1.2.1,h1.2.2.2]
theorem ZkW{S:Store}{it:gm}(hit:∀G,locked it (S++G)=true):∀(L:List Fr) (acc:List D) (G:Store) (a0 a1 a2 a3 a4 a5 a6 a7 a8 a9 a10 a11 x:Option D),(∀f∈L,S[f.e]?=Ya f.obj)->acc.length+L.length<=100 ->
  jf it (bA 12) [] (aC sO (Zb (Za 12) (Zf))) S.length (L.map λf=>D.ref f.e) [a0,a1,a2,a3,a4,a5,a6,a7,a8,a9,a10,a11,x] (S++ .lst acc::G)= .ok (.ref S.length) (S++ .lst (acc++(rH (S.length+1+G.length) L).map λf=>D.ref f.e)::(G++L.map Fr.obj))
 |[],acc,G,a0,a1,a2,a3,a4,a5,a6,a7,a8,a9,a10,a11,x,_,_=>by rw[uc,TJ,if_pos (hit _)];simp[rH]|f::L,acc,G,a0,a1,a2,a3,a4,a5,a6,a7,a8,a9,a10,a11,x,hL,hl=>by
  rw[Yk]at hl
  let T:=S++ .lst acc::G
  have lT:T.length=S.length+1+G.length:=by simp[T];exact Y1 (lB 0 1790139547840 T1) (lB 0 0xa1c0c1a0cc0 T1)
  have ih:=ZkW hit L (acc++[.ref T.length]) (G++[f.obj]) a0 a1 a2 a3 a4 a5 a6 a7 a8 a9 a10 a11 (Ya (.ref f.e)) (λg hg=>hL g (Yd _ hg)) (by simp;exact lB 1 0x642b1a0cc0642ba1c0c01 T1 hl);have hb:aC sO (Zb (Za 12) (Zf)) [a0,a1,a2,a3,a4,a5,a6,a7,a8,a9,a10,a11,Ya (.ref f.e)] T= .ok (.ref T.length) (T++[f.obj]):=by refine cC rfl ?_;show(match T[f.e]? with|some (.lst x)=>alloc (.lst x) T|_=>.bad)=_;rw[show T[f.e]?=Ya f.obj from bL (hL f Yc) _];rfl
  have gt:(T++[f.obj])[S.length]?=Ya (.lst acc):=bL (Zo _ _ _) _;have lt:acc.length<SZ:=rY (show acc.length<=100 by exact lB 1 0x642b00642ba1c0c01 T1 hl) (by decide);have st:(T++[f.obj]).set S.length (.lst (acc++[.ref T.length]))=S++ .lst (acc++[.ref T.length])::(G++[f.obj]):=by simp[T]
  rw[Ys,Lg,if_pos (hit _)];simp only[bA,lK,lM,GJ,R3.bind,if_true];rw[show S++ .lst acc::G=T from rfl,hb];simp only[gt,lt,if_true,st];rw[ih];simp[rH,lT,qI]
structure Kept(n0:Nat)(S S':Store)(s k dr:Nat)(cur:List D)(fs gs:List Fr):Prop where
 iG:cF n0 S' k dr cur gs
 st:gs.map Fr.strip=fs.map Fr.strip
 hi:∀a∈ir k gs,S.length<=a
 pre:S<+:S'
 oo:∀g∈gs,∀a∈ir s fs,a≠g.o
variable{dr:Nat}
theorem Ztc{n0:Nat}{fs:List Fr}(K:cF n0 S s dr cur fs)(hn:n0<=S.length)(hl:fs.length<=12){a0 a1 a2 a3 a4 a6 a7 a8 a9 a10 a11:Option D}:
  ∃S' gs,fW (bZ (Za 5)) 1 (bA 12) [] (aC sO (Zb (Za 12) (Zf))) [a0,a1,a2,a3,a4,Ya (.ref s),a6,a7,a8,a9,a10,a11] S= .ok (.ref S.length) S'/\Kept n0 S S' s S.length dr cur fs gs:=by
 have hsl:(fs.map λf=>D.ref f.e).reverse=fs.reverse.map λf=>D.ref f.e:=Fg.symm;have hs:S[s]?=Ya (.lst (fs.reverse.map λf=>D.ref f.e)):=by rw[←hsl];exact K.hs
 have lp:=ZkW (S:=S) (it:=⟨fs.reverse.map λf=>D.ref f.e,Ya s⟩) (λG=>decide_eq_true (bL hs G)) fs.reverse [] [] a0 a1 a2 a3 a4 (Ya (.ref s)) a6 a7 a8 a9 a10 a11 Ym (λf hf=>K.he f (Qm.mp hf)) (by simp;exact lA 1 0x642b00c1b001 T1 hl);rw[jk,jk,Fi,JV]at lp
 let m:=S.length+1
 let S':=S++ .lst ((rH m fs.reverse).map λf=>D.ref f.e)::fs.reverse.map Fr.obj
 let gs:=(rH m fs.reverse).reverse
 have old:∀a,a<S.length->S'[a]?=S[a]?:=λa h=>Yj h;have mem:∀g∈gs,∃f∈fs,∃j,fs.reverse[j]?=Ya f/\g={f with e:=m+j}:=λg hg=>by obtain⟨f,h1,j,h2,h3⟩:=Zpq m fs.reverse g (Qm.mp hg);exact⟨f,Qm.mp h1,j,h2,h3⟩
 have hi:∀a∈ir S.length gs,S.length<=a:=λa ha=>by
  rcases Yo.mp ha with e|e
  .exact j9 e.symm
  .obtain⟨g,hg,rfl⟩:=dZ.mp e;obtain⟨f,_,j,_,rfl⟩:=mem g hg;show S.length<=m+j;omega
 have lt:=K.lt;refine⟨S',gs,?_,⟨?_,λg hg=>?_,λg hg=>?_,?_,?_,λa ha=>⟨?_,λg hg=>?_⟩,K.lo.1,λa ha=>Yi hn (hi a ha),λg hg=>?_⟩,?_,hi,t7 _ _,λg hg a ha=>?_⟩
 .have hi0:bZ (Za 5) [a0,a1,a2,a3,a4,Ya (.ref s),a6,a7,a8,a9,a10,a11] S= .ok ⟨fs.reverse.map λf=>D.ref f.e,Ya s⟩ S:=by
   show(R3.ok (D.ref s) S).bind _=_;simp only[R3.bind,hs]
  rw[TQ hi0];exact lp
 .refine(Zo S _ _).trans ?_;rw[Fg,Yjb]
 .obtain⟨f,_,j,h2,rfl⟩:=mem g hg;show(S++_)[S.length+1+j]?=Ya f.obj;rw[qI,sY,mH 1 j,Fd,lO,h2];rfl
 .obtain⟨f,hf,j,_,rfl⟩:=mem g hg;exact(old f.o (lt.2.2 f hf)).trans (K.ho f hf)
 .exact(old dr lt.2.1).trans K.hc
 .refine iR.mpr ⟨λz=>?_,?_⟩
  .obtain⟨g,hg,e⟩:=dZ.mp z;obtain⟨f,_,j,_,rfl⟩:=mem g hg;have e:m+j=S.length:=e;have:m=S.length+1:=rfl;exact lC 2 0x6120c21a1c031 T1 this e
  .rw[Fg,Zq5];exact(List.reverse_perm _).nodup_iff.mpr List.nodup_range'
 .have:=hi a ha;have:=lt.2.1;omega
 .obtain⟨f,hf,j,_,rfl⟩:=mem g hg;have:=hi a ha;have:=lt.2.2 f hf;show a≠f.o;omega
 .obtain⟨f,hf,j,_,rfl⟩:=mem g hg;exact K.lo.2.2 f hf
 .rw[Fg,ZkG,Fg,Yjb]
 .obtain⟨f,hf,j,_,rfl⟩:=mem g hg;exact(K.dj a ha).2 f hf
noncomputable abbrev Wk:S3:=(Zr (aA 9 (fW (bZ (Za 5)) 1 (bA 12) [] (aC sO (Zb (Za 12) (Zf))))) (Zr (qZ (Zz zy (Zb (Za 0) (Zb (Za 1) (Zb (Za 5) (Zb (Za 6) (Zf)))))) [10,11]) (Zr (aK (e2 cX (e2 aN (Za 7) (aC bx (Zb (Za 10) (Zf)))) (Za 3)) (Zr (aA 5 (Za 9)) (Tz)) (aW)) (Zr (aA 6 (Za 11)) (Zr (aA 7 (e2 aN (e2 aN (Za 7) (aC bx (Zb (Za 10) (Zf)))) (eC (.int 1)))) (aU (aG bj cu (Za 4) (Zb (Za 10) (Zf)))))))))
noncomputable abbrev Wl:S3:=(Zr (aK (bN (e2 bh (e2 Zn (e2 Zn (Za 5) (e1 cL (eC (.int 1)))) (eC (.int 0))) (eC (.str [119,104,101,110]))) (e2 o6 (e2 Zn (e2 Zn (Za 5) (e1 cL (eC (.int 1)))) (eC (.int 3))) (eC .non))) (Zr (sV (e2 Zn (Za 5) (e1 cL (eC (.int 1)))) (eC (.int 3)) (aC gC (Zb (Za 6) (Zf)))) (Zr (aA 6 (aV (Zf))) (aU (aG bj cu (Za 4) (Zb (eC (.str [101,108,115,101])) (Zf)))))) (aW)) (Zr (aA 6 (Zz wZ (Zb (Za 5) (Zb (Za 6) (Zf))))) (Zr (aU (aG bj pY (Za 5) (Zf))) (aU (aG bj cu (Za 4) (Zb (eC (.str [101,110,100])) (Zf)))))))
noncomputable abbrev cg(rs:List Rw):List (List Nat):=rs.map λr=>glue [32] r.words
noncomputable def gl(T:List (List Nat)):Nat:=(T.map λt=>t.length+1).sum
theorem Wm(T:List (List Nat))(t:List Nat):gl (T++[t])=gl T+(t.length+1):=by simp[gl]
theorem Wn:∀(rs:List Rw) (r:Rw) (x y z:List Pf),kI rs x=Ya y->jA r y=Ya z->kI (rs++[r]) x=Ya z
 |[],r,x,y,z,h,k=>by cases h;show(jA r x).bind _=_;rw[k];rfl|q::rs,r,x,y,z,h,k=>by
  show(jA q x).bind (kI (rs++[r]))=_;have h:(jA q x).bind (kI rs)=Ya y:=h;cases e:jA q x with
  |none=>rw[e]at h;cases h|some w=>rw[e]at h;exact Wn rs r w y z h k
noncomputable abbrev Ei:List Pf:=[⟨jZ,[],[],[]⟩]
structure iK(cs:List Int)(c d:Nat)(M S:Store)(s dr:Nat)(cur:List D)(fs:List Fr)(rs:List Rw)(aq k:Nat):Prop where
 iG:cF (M.length+1) S s dr cur fs
 dk:fc cs c d aq S
 kp:Kp d M S
 rw:S[M.length]?=Ya (.lst ((cg rs).map D.str))
 ok:∀r∈rs,cQ r
 Ab:kI rs Ei=Ya (iu cur fs)
 fr:∀f∈fs,f.ok
 le:fs.length<=12
 bd:cur.length<=k/\∀f∈fs,f.out.length<=k
 ld:c<M.length/\d<M.length
theorem iK.n0{fs:List Fr}{aq k:Nat}(P:iK cs c d M S s dr cur fs rs aq k):M.length+1<=S.length:=(Ye.mp P.rw).1
theorem Wo(h:S<+:S')(ha:a<S.length):S'[a]?=S[a]?:=by obtain⟨G,rfl⟩:=h;exact Yj ha
theorem ZrF{fs gs:List Fr}(h:gs.map Fr.strip=fs.map Fr.strip){k:Nat}(ok:∀f∈fs,f.ok)(bd:∀f∈fs,f.out.length<=k):(∀g∈gs,g.ok)/\∀g∈gs,g.out.length<=k:=by
 have key:∀g∈gs,∃f∈fs,f.strip=g.strip:=λg hg=>by
  have:g.strip∈fs.map Fr.strip:=by rw[←h];exact qC hg
  obtain⟨f,hf,e⟩:=dZ.mp this;exact⟨f,hf,e⟩
 refine⟨λg hg=>?_,λg hg=>?_⟩
 .obtain⟨f,hf,e⟩:=key g hg;simp only[Fr.strip,RK]at e;have:=ok f hf;unfold Fr.ok at this ⊢;rw[←e.1,←e.2.2.2];exact this
 .obtain⟨f,hf,e⟩:=key g hg;simp only[Fr.strip,RK]at e;rw[←e.2.2.1];exact bd f hf
section
variable {cs:List Int} {c d:Nat} {M S:Store} {s dr:Nat} {cur:List D} {fs:List Fr} {rs:List Rw} {aq k:Nat}
theorem iK.mono(P:iK cs c d M S s dr cur fs rs aq k){k':Nat}(h:k<=k'):iK cs c d M S s dr cur fs rs aq k':=⟨P.iG,P.dk,P.kp,P.rw,P.ok,P.Ab,P.fr,P.le,⟨Yi P.bd.1 h,λf hf=>Yi (P.bd.2 f hf) h⟩,P.ld⟩
theorem ZsR(P:iK cs c d M S s dr cur fs rs aq k)(hnr:M[nr]?=Ya (.lst (names.map D.str)))(nd:nr≠d)(hn:names.length=12)(hnm:∀x∈names,fZ x)(hk:k<900)(ha:aq+200<1000000)(hr:rs.length<10000)(hg:gl (cg rs)<=3401)(v2 a8 a9 a10 a11:Option D):
  (∃S' s' fs' at' y9 y10 y11,Wk [Ya (.ref d),Ya (.ref nr),v2,Ya (.int 3400),Ya (.ref M.length),Ya (.ref s),Ya (.ref dr),Ya (.int (gl (cg rs):Int)),a8,a9,a10,a11] S= .bk [Ya (.ref d),Ya (.ref nr),v2,Ya (.int 3400),Ya (.ref M.length),Ya (.ref s'),Ya (.ref dr),Ya (.int (gl (cg rs):Int)),a8,y9,y10,y11] S'/\iK cs c d M S' s' dr cur fs' rs at' k/\at'<=aq+121)\/
  (∃r S' bV cur' fs' at' y9 y10 y11,Wk [Ya (.ref d),Ya (.ref nr),v2,Ya (.int 3400),Ya (.ref M.length),Ya (.ref s),Ya (.ref dr),Ya (.int (gl (cg rs):Int)),a8,a9,a10,a11] S= .nx [Ya (.ref d),Ya (.ref nr),v2,Ya (.int 3400),Ya (.ref M.length),Ya (.ref s),Ya (.ref bV),Ya (.int (gl (cg (rs++[r])):Int)),a8,y9,y10,y11] S'/\iK cs c d M S' s bV cur' fs' (rs++[r]) at' (k+1)/\at'<=aq+121/\gl (cg (rs++[r]))<=3401):=by
 have n0:=P.n0;have ld:=P.ld;obtain⟨S1,gs,hk1,KE⟩:=Ztc P.iG n0 P.le (a0:=Ya (.ref d)) (a1:=Ya (.ref nr)) (a2:=v2) (a3:=Ya (.int 3400)) (a4:=Ya (.ref M.length)) (a6:=Ya (.ref dr)) (a7:=Ya (.int (gl (cg rs):Int))) (a8:=a8) (a9:=a9) (a10:=a10) (a11:=a11);obtain⟨G,Wq⟩:=KE.pre;have K1:cF (M.length+1) S1 s dr cur fs:=by rw[←Wq];exact P.iG.app G
 have D1:fc cs c d aq S1:=by rw[←Wq];exact P.dk.app G
 have Jc:S.length<=S1.length:=by rw[←Wq];exact len_app S G
 have AbK:S1[nr]?=Ya (.lst (names.map D.str)):=(Wo KE.pre (Y8 (Ye.mp hnr).1 P.kp.len)).trans (P.kp.get hnr nd);obtain⟨r,S2,n',bV,cur',fs',at',hrow,O,hat⟩:=Zwp K1 D1 AbK nd hn hnm ⟨lB 1 43419504657 T1 ld.1,lB 1 43419504657 T1 ld.2⟩ (Yi n0 Jc) P.fr P.le P.bd hk ha;have qw:S2[M.length]?=Ya (.lst ((cg rs).map D.str)):=by rw[O.old M.length (lC 2 317802548367361 T1 Jc n0) (λz=>lB 2 25787699233 T1 z ld.2) (λz=>by have:=K1.lo.2.1 _ z;exact lA 1 101321729 T1 this),Wo KE.pre (by exact lB 1 4313451521 T1 n0)];exact P.rw
 have NZ:Kp d M S2:=⟨by have:=O.len;exact lD 3 0x1302a3c0102011001 T1 this Jc n0,λj h1 h2=>by rw[O.old j (lD 3 0x3012a1c0132011011 T1 h1 Jc n0) h2 (λz=>by have:=K1.lo.2.1 _ z;exact lB 2 6601651653633 T1 this h1),Wo KE.pre (by exact lC 2 564230323507217 T1 h1 n0)];exact P.kp.old j h1 h2⟩;have AbL:=(ZmM O.ok).le
 let u:Int:=(gl (cg rs):Int)
 let T:=glue [32] r.words
 let E:bK:=[Ya (.ref d),Ya (.ref nr),v2,Ya (.int 3400),Ya (.ref M.length),Ya (.ref s),Ya (.ref dr),Ya (.int u),a8,Ya (.ref S.length),Ya (.str T),Ya (.ref bV)]
 have a1:qZ (Zz zy (Zb (Za 0) (Zb (Za 1) (Zb (Za 5) (Zb (Za 6) (Zf)))))) [10,11] [Ya (.ref d),Ya (.ref nr),v2,Ya (.int 3400),Ya (.ref M.length),Ya (.ref s),Ya (.ref dr),Ya (.int u),a8,Ya (.ref S.length),a10,a11] S1= .nx E S2:=by unfold qZ;rw[GR rfl rfl rfl rfl hrow];simp only[O.out];rfl
 let E2:bK:=[Ya (.ref d),Ya (.ref nr),v2,Ya (.int 3400),Ya (.ref M.length),Ya (.ref s),Ya (.ref bV),Ya (.int u),a8,Ya (.ref S.length),Ya (.str T),Ya (.ref bV)]
 have X8:∀{X:bK},Za 10 X S2= .ok (.str T) S2->aC bx (Zb (Za 10) (Zf)) X S2= .ok (.int (T.length:Int)) S2:=λh=>cC h (by simp only[yJ,yK,yL,qT,if_pos (show T.length<=SZ from Yi AbL (by decide))]);have c1:e2 cX (e2 aN (Za 7) (aC bx (Zb (Za 10) (Zf)))) (Za 3) E S2= .ok (.bl (decide ((3400:Int)<u+(T.length:Int)))) S2:=Zh (Zh rfl (X8 rfl) rfl) rfl (by rw[jP]);by_cases Wr:(3400:Int)<u+(T.length:Int)
 .rw[decide_eq_true Wr]at c1;refine .inl ⟨S2,S.length,gs,at',Ya (.ref S.length),Ya (.str T),Ya (.ref bV),(Zi (Zq hk1)).trans ((Zi a1).trans (?_)),?_,hat⟩
  .unfold Zr;rw[fX c1];rfl
  .have q:=ZrF KE.st P.fr P.bd.2;have KK:=KE.iG;have nm:∀a,a<S1.length->a≠d->a∉ir s fs->S2[a]?=S1[a]?:=O.old;have N5:=KK.lt;have lts:=P.iG.lt;refine⟨⟨?_,λf hf=>?_,λf hf=>?_,?_,KK.nd,KK.dj,KK.lo⟩,O.dk,NZ,qw,P.ok,by rw[P.Ab,Zjn gs fs cur KE.st],q.1,by have:=congrArg ud KE.st;rw[Yu,Yu]at this;have:=P.le;omega,⟨P.bd.1,q.2⟩,ld⟩
   .have h:=KE.hi _ (Yc (a:=S.length));rw[nm S.length (N5.1 _ Yc) (λz=>lC 3 0x60a2c0121111021 T1 z ld.2 n0) (λz=>by have:=lts.1 _ z;exact lA 1 393233 T1 this)];exact KK.hs
   .have hm:f.e∈ir S.length gs:=Yd _ (qC hf);have h:=KE.hi _ hm;rw[nm f.e (N5.1 _ hm) (λz=>lD 4 0x62a3c01311102011021 T1 z h ld.2 n0) (λz=>by have:=lts.1 _ z;exact lB 2 25786650641 T1 this h)];exact KK.he f hf
   .have h:=KK.lo.2.2 f hf;have hno:f.o∉ir s fs:=λz=>KE.oo f hf _ z rfl;rw[nm f.o (N5.2.2 f hf) (λz=>lC 3 0x621110a2c011021 T1 z h ld.2) hno];exact KK.ho f hf
   .have h:=KK.lo.1;rw[nm dr N5.2.1 (λz=>lC 3 0x621110a2c011021 T1 z h ld.2) (λz=>(P.iG.dj dr z).1 rfl)];exact KK.hc
 .rw[decide_eq_false Wr]at c1;have hu:u=(gl (cg rs):Int):=rfl;have eg:gl (cg (rs++[r]))=gl (cg rs)+(T.length+1):=by rw[cg,jl];exact Wm _ _
  let S3:=S2.set M.length (.lst ((cg (rs++[r])).map D.str))
  have hz:((cg rs).map D.str).length<SZ:=by rw[Yu,Yu];exact nT hr (by decide)
  have a3:=nF (env:=[Ya (.ref d),Ya (.ref nr),v2,Ya (.int 3400),Ya (.ref M.length),Ya (.ref s),Ya (.ref bV),Ya (.int (gl (cg (rs++[r])):Int)),a8,Ya (.ref S.length),Ya (.str T),Ya (.ref bV)]) (M:=S2) (M':=S2) (M2:=S2) (o:=Za 4) (t:=Za 10) (d:=.str T) rfl qw rfl qw hz;have e3:(cg rs).map D.str++[D.str T]=(cg (rs++[r])).map D.str:=by simp[cg,T]
  rw[e3]at a3;refine .inr ⟨r,S3,bV,cur',fs',at',Ya (.ref S.length),Ya (.str T),Ya (.ref bV),(Zi (Zq hk1)).trans ((Zi a1).trans ((Zi (cY c1)).trans ((Zi (Zq (d:=.ref bV) (env':=E2) rfl rfl)).trans ((Zi (Zq (d:=.int (gl (cg (rs++[r])):Int)) (Zh (Zh rfl (X8 rfl) rfl) rfl (by rw[uH];congr 2;exact qJ (iN [_,_,_] [_] 2 0x8a280cc8180a1a2c1c031 T1 eg hu) (iN [_,_,_] [_] 2 0xa280cc088180b1a2c1c021 T1 eg hu))) rfl)).trans a3)))),?_,hat,iN [_,_,_] [_] 3 0xd493b00280cd483bd1180b1a2c1c021 T1 eg hu Wr⟩;have KD:∀a,M.length+1<=a->a<S2.length->S3[a]?=S2[a]?:=λa h _=>Yp (λz=>lB 2 6708940312625 T1 z h);exact⟨O.iG.frame KD,O.dk.put (by exactλz=>lB 2 25787699233 T1 z ld.2) (by omega) _,NZ.put (Yt _) _,Yw (Ye.mp qw).1,λq hq=>by
   rcases fj.mp hq with z|z
   .exact P.ok q z
   .rw[Yy.mp z];exact O.ok,Wn _ _ _ _ _ P.Ab O.st,O.fr,O.le,O.bd,ld⟩
end
section
variable {cs:List Int} {c d:Nat} {M:Store}
theorem ZoU{nr:Nat}{names:List (List Nat)}(hnr:M[nr]?=Ya (.lst (names.map D.str)))(nd:nr≠d)(hn:names.length=12)(hnm:∀x∈names,fZ x){it:gm}(hi:it.lock=Ym){v2:Option D}:
  ∀(xs:List D) (S:Store) (s dr:Nat) (cur:List D) (fs:List Fr) (rs:List Rw) (aq k:Nat) (a8 a9 a10 a11:Option D),iK cs c d M S s dr cur fs rs aq k->k+xs.length<=400->rs.length<=k->aq+121*xs.length<900000->gl (cg rs)<=3401 ->
  ∃(S':Store) (s' bV:Nat) (cur':List D) (fs':List Fr) (rs':List Rw) (at':Nat) (y7 y8 y9 y10 y11:Option D),dH it (bA 8) Wk xs [Ya (.ref d),Ya (.ref nr),v2,Ya (.int 3400),Ya (.ref M.length),Ya (.ref s),Ya (.ref dr),Ya (.int (gl (cg rs):Int)),a8,a9,a10,a11] S= .nx [Ya (.ref d),Ya (.ref nr),v2,Ya (.int 3400),Ya (.ref M.length),Ya (.ref s'),Ya (.ref bV),y7,y8,y9,y10,y11] S'/\iK cs c d M S' s' bV cur' fs' rs' at' 400/\rs'.length<=400/\gl (cg rs')<=3401/\at'<=aq+121*xs.length
 |[],S,s,dr,cur,fs,rs,aq,k,a8,a9,a10,a11,P,h1,h2,h3,h4=>⟨S,s,dr,cur,fs,rs,aq,_,_,_,_,_,by rw[pZ,if_pos (by unfold locked;rw[hi])],P.mono (by simpa using h1),Yi h2 (by simpa using h1),h4,jd _ _⟩|x::xs,S,s,dr,cur,fs,rs,aq,k,a8,a9,a10,a11,P,h1,h2,h3,h4=>by
  rw[Yk]at h1 h3;rcases ZsR P hnr nd hn hnm (lB 1 0x3843b011903ba1c0c01 T1 h1) (lB 1 0xf42405bc82b0c1dbba05ba1c79d0c11 T1 h3) (lC 2 0x27104b011903ba2c1c011001 T1 h2 h1) h4 v2 (Ya x) a9 a10 a11 with⟨S',s',fs',at',y9,y10,y11,hb,P',hat⟩|⟨r,S',bV,cur',fs',at',y9,y10,y11,hb,P',hat,hg⟩
  .refine⟨S',s',dr,cur,fs',rs,at',Ya (.int (gl (cg rs):Int)),Ya x,y9,y10,y11,?_,P'.mono (lB 1 0x1903b001903ba1c0c01 T1 h1),lC 2 0x1903b001903ba2c1c011001 T1 h2 h1,h4,by rw[Yk];exact lC 1 0xa2c79d1c00792b1c001 T1 hat⟩;rw[o8,if_pos (by unfold locked;rw[hi])];simp only[bA,lK,lM];rw[hb]
  .obtain⟨S2,s2,dr2,Ac,fs2,Ws,at2,z7,z8,z9,Wt,z11,hl,P2,q1,q2,q3⟩:=ZoU hnr nd hn hnm hi xs S' s bV cur' fs' (rs++[r]) at' (k+1) (Ya x) y9 y10 y11 P' (lB 1 0x1903b1a0cc01903ba1c0c01 T1 h1) (by rw[Yf];exact pO h2) (lC 2 0xdbba05b279d0c1dbba05ba2c79d1c11792b1c001 T1 hat h3) hg;refine⟨S2,s2,dr2,Ac,fs2,Ws,at2,z7,z8,z9,Wt,z11,?_,P2,q1,q2,by rw[Yk];exact lD 2 0xa2c79d3c00792b3c101279d1c001 T1 q3 hat⟩;rw[o8,if_pos (by unfold locked;rw[hi])];simp only[bA,lK,lM];rw[hb];exact hl
theorem iK.app{fs:List Fr}{aq k:Nat}(P:iK cs c d M S s dr cur fs rs aq k)(G:Store):iK cs c d M (S++G) s dr cur fs rs aq k:=⟨P.iG.app G,P.dk.app G,P.kp.trans (Kp.app d S G),bL P.rw G,P.ok,P.Ab,P.fr,P.le,P.bd,P.ld⟩
theorem iK.row{fs fs':List Fr}{aq k k':Nat}(P:iK cs c d M S s dr cur fs rs aq k){S1:Store}{bV:Nat}(K:cF (M.length+1) S1 s bV cur' fs')(D1:fc cs c d aq S1)(kp:Kp d M S1)(hw:S1[M.length]?=Ya (.lst ((cg rs).map D.str)))(ok:cQ r)(st:jA r (iu cur fs)=Ya (iu cur' fs'))(fr:∀f∈fs',f.ok)(le:fs'.length<=12)(bd:cur'.length<=k'/\∀f∈fs',f.out.length<=k'):
  iK cs c d M (S1.set M.length (.lst ((cg (rs++[r])).map D.str))) s bV cur' fs' (rs++[r]) aq k':=
 ⟨K.frame λa h _=>Yp (λz=>lB 2 6708940312625 T1 z h),D1.put (by have:=P.ld;exactλz=>lB 2 25787699233 T1 z this.2) (by have:=P.ld;exactλz=>lB 2 25787699233 T1 z this.1) _,kp.put (Yt _) _,Yw (Ye.mp hw).1,λq hq=>by
  rcases fj.mp hq with z|z
  .exact P.ok q z
  .rw[Yy.mp z];exact ok,Wn _ _ _ _ _ P.Ab st,fr,le,bd,P.ld⟩
theorem ZmC{t:List Nat}{e:E3}(hv:Za 4 env S= .ok (.ref M.length) S)(he:e env S= .ok (.str t) S)(ht:t=glue [32] r.words)(hw:S[M.length]?=Ya (.lst ((cg rs).map D.str)))(hl:rs.length<=1000):
  aU (aG bj cu (Za 4) (Zb e (Zf))) env S= .nx env (S.set M.length (.lst ((cg (rs++[r])).map D.str))):=by
 refine(nF hv hw he hw (by rw[Yu,Yu];exact rY hl (by decide))).trans ?_;rw[show(cg rs).map D.str++[D.str t]=(cg (rs++[r])).map D.str by simp[cg,ht]]
theorem Zq0{f:Fr}{fs:List Fr}{aq k:Nat}(P:iK cs c d M S s dr cur (f::fs) rs aq k)(hd:f.done)(hk:k<=900)(hr:rs.length<=1000)(v0 v1 v2 v3 a7 a8 a9 a10 a11:Option D):
  ∃(S':Store) (bV:Nat) (cur':List D),Zr (aA 6 (Zz wZ (Zb (Za 5) (Zb (Za 6) (Zf))))) (Zr (aU (aG bj pY (Za 5) (Zf))) (aU (aG bj cu (Za 4) (Zb (eC (.str [101,110,100])) (Zf))))) [v0,v1,v2,v3,Ya (.ref M.length),Ya (.ref s),Ya (.ref dr),a7,a8,a9,a10,a11] S= .nx [v0,v1,v2,v3,Ya (.ref M.length),Ya (.ref s),Ya (.ref bV),a7,a8,a9,a10,a11] S'/\iK cs c d M S' s bV cur' fs (rs++[⟨eO,[],[]⟩]) aq (k+1):=by
 have n0:=P.n0;have hol:=P.bd.2 f Yc;have ce:=ZkY P.iG hd (lB 2 0x3e83b003843b1011001 T1 hol hk)
 let W:=(f.pf cur).whole
 let S4:=S++[MO.lst [W],MO.lst (f.out++[W])]
 have K4:=P.iG.app [MO.lst [W],MO.lst (f.out++[W])];have g1:S4[S.length+1]?=Ya (.lst (f.out++[W])):=by show(S++_)[_]?=_;rw[sY];rfl
 have K5:=K4.pop g1 (lB 1 0xa1ca0c01a0c01 T1 n0) (Ig P.iG.lt.1 (v8 _))
 let S5:=S4.set s (.lst (fs.map λf=>D.ref f.e).reverse)
 have Wj:S4[s]?=Ya (.lst ((fs.map λf=>D.ref f.e).reverse++[D.ref f.e])):=by rw[K4.hs,Ys,vJ]
 have hs0:=P.iG.lo.2.1 s Yc;have ld:=P.ld;have hw5:S5[M.length]?=Ya (.lst ((cg rs).map D.str)):=(Yp (λz=>lB 2 6640489271329 T1 z hs0)).trans (bL P.rw _);have P2:=P.row (r:=⟨eO,[],[]⟩) (k':=k+1) K5 ((P.dk.app _).put (by exactλz=>lC 3 0x60a2c0121111021 T1 z ld.2 hs0) (by omega) _) ((P.kp.trans (Kp.app d S _)).put (by omega) _) hw5 Zq9 (ZmN hd (by omega)) (λg hg=>P.fr g (Yd _ hg)) (by have:=P.le;rw[Yk]at this;omega) ⟨by rw[Yf];exact pO hol,λg hg=>rZ (P.bd.2 g (Yd _ hg))⟩;refine⟨_,S.length+1,f.out++[W],(Zi (Zq (qY rfl rfl ce))).trans ((Zi (p6 (Nu rfl Wj))).trans ?_),P2⟩;exact ZmC (r:=⟨eO,[],[]⟩) rfl rfl rfl hw5 hr
theorem Ztb{f:Fr}{fs:List Fr}{aq k:Nat}(P:iK cs c d M S s dr cur (f::fs) rs aq k)(hk:k<=800)(hr:rs.length<=900)(v0 v1 v2 v3 a7 a8 a9 a10 a11:Option D):
  ∃(S':Store) (bV:Nat) (cur':List D) (rs':List Rw),Wl [v0,v1,v2,v3,Ya (.ref M.length),Ya (.ref s),Ya (.ref dr),a7,a8,a9,a10,a11] S= .nx [v0,v1,v2,v3,Ya (.ref M.length),Ya (.ref s),Ya (.ref bV),a7,a8,a9,a10,a11] S'/\iK cs c d M S' s bV cur' fs rs' aq (k+1)/\rs'.length<=rs.length+2/\gl (cg rs')<=gl (cg rs)+9:=by
 have K:=P.iG;have n0:=P.n0;have ld:=P.ld;have gE:∀q:List Rw,gl (cg (q++[⟨eO,[],[]⟩]))=gl (cg q)+4:=λq=>by rw[cg,jl];exact Wm _ _
 have gL:∀q:List Rw,gl (cg (q++[⟨eZ,[],[]⟩]))=gl (cg q)+5:=λq=>by rw[cg,jl];exact Wm _ _
 let E:bK:=[v0,v1,v2,v3,Ya (.ref M.length),Ya (.ref s),Ya (.ref dr),a7,a8,a9,a10,a11]
 by_cases hc:f.w=cD/\f.ah=Ym
 .have c1:bN (e2 bh (e2 Zn (e2 Zn (Za 5) (e1 cL (eC (.int 1)))) (eC (.int 0))) (eC (.str [119,104,101,110]))) (e2 o6 (e2 Zn (e2 Zn (Za 5) (e1 cL (eC (.int 1)))) (eC (.int 3))) (eC .non)) E S= .ok (.bl true) S:=by
   rw[h_ (M1:=S) (Zh (K.top0 rfl) rfl (iz.trans (by rw[decide_eq_true hc.1])))];exact Zh (K.Jb rfl) rfl ((Wg f.ah S).trans (by rw[hc.2];rfl))
  have K3:=K.els cur
  let S3:=S.set f.e (Fr.obj {f with ah:=Ya cur})
  have l3:S3.length=S.length:=t_ ..;have hm:f.e∈ir s (f::fs):=Yd _ Yc;have hlo:=K.lo.2.1 _ hm
  let S4:=S3++[MO.lst []]
  have K4:cF (M.length+1) S4 s S3.length [] ({f with ah:=Ya cur}::fs):=(K3.app _).now (Zo _ _ _) (lC 2 0xa2c01a2c011031 T1 l3 n0) (Ig K3.lt.1 (Yt _));have p1:sV (e2 Zn (Za 5) (e1 cL (eC (.int 1)))) (eC (.int 3)) (aC gC (Zb (Za 6) (Zf))) E S= .nx E S3:=p6 (d:=.non) (Zx3 (cC rfl (nZ K.hc)) (K.top rfl) rfl (Zuy (K.he f Yc)));have hw4:S4[M.length]?=Ya (.lst ((cg rs).map D.str)):=bL ((Yp (λz=>lB 2 6640489271329 T1 z hlo)).trans P.rw) _;have P2:=P.row (r:=⟨eZ,[],[]⟩) (k':=k) K4 ((P.dk.put (by exactλz=>lC 3 0x621110a2c011021 T1 z hlo ld.2) (by omega) _).app _) ((P.kp.put (by omega) _).trans (Kp.app d _ _)) hw4 ZsH (Zm7 hc.1 hc.2) (λg hg=>by
   rcases Yo.mp hg with e|e
   .rw[e];exact .inl hc.1
   .exact P.fr g (Yd _ e)) P.le ⟨fC _,λg hg=>by
   rcases Yo.mp hg with e|e
   .rw[e];exact P.bd.2 f Yc
   .exact P.bd.2 g (Yd _ e)⟩
  obtain⟨S',bV,cur',h2,P3⟩:=Zq0 P2 (.inl ⟨hc.1,cur,rfl⟩) (lA 1 0x3843b003203b001 T1 hk) (by rw[Yf];exact pO (Yi hr (by decide))) v0 v1 v2 v3 a7 a8 a9 a10 a11;refine⟨S',bV,cur',_,?_,P3,by simp,by rw[gE,gL];exact lA 0 0x91b0c41b51b0cc0 T1⟩;refine(Zi ((fX c1).trans ((Zi p1).trans ((Zi (Zq (d:=.ref S3.length) (M':=S4) (env':=[v0,v1,v2,v3,Ya (.ref M.length),Ya (.ref s),Ya (.ref S3.length),a7,a8,a9,a10,a11]) (dz rfl rfl) rfl)).trans (ZmC (r:=⟨eZ,[],[]⟩) rfl rfl rfl hw4 (lA 1 0x3e83b003843b001 T1 hr)))))).trans h2
 .have c1:bN (e2 bh (e2 Zn (e2 Zn (Za 5) (e1 cL (eC (.int 1)))) (eC (.int 0))) (eC (.str [119,104,101,110]))) (e2 o6 (e2 Zn (e2 Zn (Za 5) (e1 cL (eC (.int 1)))) (eC (.int 3))) (eC .non)) E S= .ok (.bl false) S:=by
   by_cases q:f.w=cD
   .rw[h_ (M1:=S) (Zh (K.top0 rfl) rfl (iz.trans (by rw[decide_eq_true q])))];refine Zh (K.Jb rfl) rfl ((Wg f.ah S).trans ?_);cases e:f.ah with
    |none=>exact absurd ⟨q,e⟩ hc|some _=>rfl
   .exact lX (Zh (K.top0 rfl) rfl (iz.trans (by rw[decide_eq_false q])))
  have hdone:f.done:=by
   rcases P.fr f Yc with q|q
   .cases e:f.ah with
    |none=>exact absurd ⟨q,e⟩ hc|some a=>exact .inl ⟨q,a,e⟩
   .exact .inr q
  obtain⟨S',bV,cur',h2,P3⟩:=Zq0 P hdone (lA 1 0x3843b003203b001 T1 hk) (lA 1 0x3e83b003843b001 T1 hr) v0 v1 v2 v3 a7 a8 a9 a10 a11;exact⟨S',bV,cur',_,(Zi (cY c1)).trans h2,P3,by simp,by rw[gE];exact lA 0 0x91b0c41b0c0 T1⟩
theorem Zmr:∀(fs:List Fr) (fuel:Nat) (S:Store) (s dr:Nat) (cur:List D) (rs:List Rw) (aq k:Nat) (v0 v1 v2 v3 a7 a8 a9 a10 a11:Option D),iK cs c d M S s dr cur fs rs aq k->fs.length<fuel->k+fs.length<=700->rs.length+2*fs.length<=800 ->
  ∃(S':Store) (bV:Nat) (cur':List D) (rs':List Rw),sX (e2 rC (Za 5) (aV (Zf))) Wl fuel [v0,v1,v2,v3,Ya (.ref M.length),Ya (.ref s),Ya (.ref dr),a7,a8,a9,a10,a11] S= .nx [v0,v1,v2,v3,Ya (.ref M.length),Ya (.ref s),Ya (.ref bV),a7,a8,a9,a10,a11] S'/\iK cs c d M S' s bV cur' [] rs' aq (k+fs.length)/\rs'.length<=rs.length+2*fs.length/\gl (cg rs')<=gl (cg rs)+9*fs.length
 |[],fuel,S,s,dr,cur,rs,aq,k,v0,v1,v2,v3,a7,a8,a9,a10,a11,P,h1,_,_=>by obtain⟨f,rfl⟩:∃f,fuel=f+1:=⟨fuel-1,Y1 ((gO _ _)) (j9 (Y9 (lB 1 27267089 T1 h1)))⟩;refine⟨S++[.lst []],dr,cur,rs,?_,P.app _,by simp,by simp⟩;rw[BW,P.iG.Eg rfl];rfl|f::fs,fuel,S,s,dr,cur,rs,aq,k,v0,v1,v2,v3,a7,a8,a9,a10,a11,P,h1,h2,h3=>by rw[Yk]at h1 h2 h3;obtain⟨n,rfl⟩:∃n,fuel=n+1:=⟨fuel-1,Y1 ((gO _ _)) (j9 (Y9 (lB 1 6981028881 T1 h1)))⟩;obtain⟨S1,Wu,PB,Wv,hb,P1,q1,q2⟩:=Ztb (P.app [.lst []]) (lB 1 0x3203b002bc3ba1c0c01 T1 h2) (lB 1 0x3843b003203ba1c02d0c01 T1 h3) v0 v1 v2 v3 a7 a8 a9 a10 a11;obtain⟨S',bV,cur',rs',hw,P',p1,p2⟩:=Zmr fs n S1 s Wu PB Wv aq (k+1) v0 v1 v2 v3 a7 a8 a9 a10 a11 P1 (lB 1 1106520968209 T1 h1) (lB 1 0x2bc3b1a0cc02bc3ba1c0c01 T1 h2) (lC 2 0x3203b202d0c03203ba2c02d1c0121b1c001 T1 q1 h3);refine⟨S',bV,cur',rs',?_,P'.mono (by rw[Yk];exact lB 0 0xa1c0c1a0cc0 T1),by rw[Yk];exact lD 2 0xa2c02d3c0021b3c101202d1c001 T1 p1 q1,by rw[Yk];exact lD 2 0xa2c09d3c0091b3c101209d1c001 T1 p2 q2⟩;rw[BW,P.iG.Eg rfl];show(match Wl _ _ with| .nx e M'=>_| .ct e M'=>_| .bk e M'=>_|o=>o)=_;rw[hb];exact hw
theorem Zs3{many:Nat}(dk:fc cs c d aq M)(hnr:M[nr]?=Ya (.lst (names.map D.str)))(nd:nr≠d)(hn:names.length=12)(hnm:∀x∈names,fZ x)(hm:many<=400)(ha:aq<100000):
  ∃(S:Store) (n:Nat) (rs:List Rw) (ds:List D) (at':Nat),M7 [.ref d,.ref nr,.int (many:Int),.int 3400] M= .ok (.ref n) S/\S[n]?=Ya (.lst [.ref M.length,.tup ds])/\S[M.length]?=Ya (.lst ((cg rs).map D.str))/\fc cs c d at' S/\Kp d M S/\(∀r∈rs,cQ r)/\kI rs Ei=Ya [⟨jZ,[],[],ds⟩]/\rs.length<=424/\gl (cg rs)<=3509/\ds.length<=412/\at'<=aq+48400:=by
 have ld:=dk.lt
 let M1:=M++[MO.lst []]
 let M2:=M1++[MO.lst []]
 let M3:=M2++[MO.lst []]
 have l1:M1.length=M.length+1:=by simp[M1]
 have l2:M2.length=M.length+2:=by simp[M2,M1]
 have K0:cF (M.length+1) M3 M1.length M2.length [] []:=⟨bL (Zo M1 _ _) _,(λf h=>nomatch h),(λf h=>nomatch h),Zo M2 _ _,by simp,λa ha=>⟨by rw[Yy.mp ha];exactλz=>lC 3 0x6a2c02121b2c1311031 T1 z l2 l1,(λf h=>nomatch h)⟩,lB 1 0xa1c021b1c031 T1 l2,λa ha=>by rw[Yy.mp ha];exact j9 l1.symm,(λf h=>nomatch h)⟩;have P0:iK cs c d M M3 M1.length M2.length [] [] [] aq 0:=⟨K0,((dk.app _).app _).app _,((Kp.app d M _).trans (Kp.app d _ _)).trans (Kp.app d _ _),bL (bL (Zo M _ _) _) _,(λr h=>nomatch h),rfl,(λf h=>nomatch h),fC _,⟨Yt _,(λf h=>nomatch h)⟩,ld⟩;have AbM:(mZ 0 many).length=many:=by simp[mZ]
 obtain⟨S1,s1,Wu,PB,fs1,Wv,at1,y7,y8,y9,y10,y11,hl,P1,q1,q2,q3⟩:=ZoU hnr nd hn hnm (it:=⟨mZ 0 many,Ym⟩) rfl (v2:=Ya (.int (many:Int))) (mZ 0 many) M3 M1.length M2.length [] [] [] aq 0 Ym Ym Ym Ym P0 (lB 2 0x1903b0ec01903b1011021 T1 AbM hm) (Yt _) (by omega) (by decide);have hf:=P1.le;obtain⟨S2,dr2,Ac,Ws,hw,P2,p1,p2⟩:=Zmr fs1 1000000 S1 s1 Wu PB Wv at1 400 (Ya (.ref d)) (Ya (.ref nr)) (Ya (.int (many:Int))) (Ya (.int 3400)) y7 y8 y9 y10 y11 P1 (lA 1 0xf42405b01c1b001 T1 hf) (lA 1 0x2bc3b01903bc0c1b001 T1 hf) (lB 2 0x3203b002d1c01903b101c1b002 T1 hf q1);refine⟨S2++[.lst [.ref M.length,.tup Ac]],S2.length,Ws,Ac,at1,?_,Zo _ _ _,bL P2.rw _,P2.dk.app _,P2.kp.trans (Kp.app d _ _),P2.ok,P2.Ab,lC 3 0x1a83b001903b101c1b202202d1c001 T1 p1 hf q1,by omega,by have:=P2.bd.1;exact lB 2 0x19c3b00c1b10111903bc001 T1 this hf,by omega⟩;refine(jQ (M':=S2++[.lst [.ref M.length,.tup Ac]]) (env:=[Ya (.ref d),Ya (.ref nr),Ya (.int (many:Int)),Ya (.int 3400),Ym,Ym,Ym,Ym,Ym,Ym,Ym,Ym]) ?_).trans (NQ P2.kp.len);unfold Vs;refine(Zi (Zq (d:=.ref M.length) (M':=M1) (dz rfl rfl))).trans ((Zi (Zq (d:=.ref M1.length) (M':=M2) (dz rfl rfl))).trans ((Zi (Zq (d:=.ref M2.length) (M':=M3) (dz rfl rfl))).trans ((Zi (Zq (d:=.int 0) rfl)).trans ?_)));have hr:sW (Za 2) [Ya (.ref d),Ya (.ref nr),Ya (.int (many:Int)),Ya (.int 3400),Ya (.ref M.length),Ya (.ref M1.length),Ya (.ref M2.length),Ya (.int 0),Ym,Ym,Ym,Ym] M3= .ok ⟨mZ 0 many,Ym⟩ M3:=by have:(many:Int)<=1000000/\ -1000000<=(many:Int):=⟨iN [_] [] 1 0xf42405b0881903b001 T1 hm,iN [_] [] 0 615291837336 T1⟩;simp[this]
 refine(Zi ((qX hr).trans hl)).trans ((Zi hw).trans ?_);exact di (dz (ds:=[.ref M.length,.tup Ac]) (Zt rfl (Zt (cC rfl (nZ P2.iG.hc)) rfl)) rfl)
end
noncomputable abbrev lnB:S3:=(Zr (aA 9 (e2 Zn (Za 2) (e2 aY (e2 aN (Za 4) (Za 8)) (eC (.int 26))))) (Zr (aA 10 (e2 iW (Za 9) (e2 aN (eC (.int 1)) (e2 aY (e2 b8 (Za 4) (eC (.int 26))) (eC (.int 8)))))) (Zr (aK (e2 bh (e2 aY (Za 3) (eC (.int 4))) (eC (.int 1))) (aA 10 (e2 aN (e2 Zn (Za 1) (e2 aY (e2 aN (Za 8) (Za 4)) (eC (.int 12)))) (Za 6))) (aW)) (Zr (aK (e2 bh (e2 aY (Za 3) (eC (.int 4))) (eC (.int 2))) (Zr (aA 10 (e2 aN (e2 iW (Za 5) (e2 aN (eC (.int 1)) (e2 aY (Za 8) (eC (.int 8))))) (e2 iW (e2 Zn (Za 2) (e2 aY (e2 aN (Za 4) (eC (.int 1))) (eC (.int 26)))) (e2 b8 (Za 8) (eC (.int 8)))))) (aA 10 (eU (Za 10) (fV) (dG (eC (.int 8)))))) (aW)) (Zr (aK (e2 bh (e2 aY (Za 3) (eC (.int 4))) (eC (.int 3))) (aA 10 (e2 aN (e2 aN (Za 6) (Za 9)) (e2 iW (e2 Zn (Za 2) (e2 aY (e2 b8 (Za 4) (eC (.int 7))) (eC (.int 26)))) (e2 aY (e2 b8 (Za 4) (eC (.int 676))) (eC (.int 7)))))) (aW)) (Zr (aK (e2 q8 (Za 10) (Za 1)) (aA 10 (e2 aN (Za 10) (eC (.str [120])))) (aW)) (aU (aG bj cu (Za 7) (Zb (Za 10) (Zf))))))))))
noncomputable def bU(x:Int):Nat:=97+(x % 26).toNat
theorem zN(x:Int):97<=bU x/\bU x<=122:=by have a:=qK x (b:=26) (by decide);have b:=ur x (b:=26) (by decide);unfold bU;exact⟨jd _ _,iN [_] [_] 2 0x7a2b0612bc0008a11a2b091 T1 b (nU a)⟩
theorem Ii(x:Int)(M:Store):Zn (.str LET) (.int (x % 26)) M= .ok (.str [bU x]) M:=by
 have a:=qK x (b:=26) (by decide);have b:=ur x (b:=26) (by decide);obtain⟨n,hn⟩:∃n:Nat,x % 26=(n:Int):=⟨(x % 26).toNat,qJ ((v_ _)) (wg (nU a))⟩;have hlt:n<26:=iN [_] [_] 2 0x1a2b011a2b091080b1 T1 hn b;have key:∀n:Nat,n<26->LET[n]?=Ya (97+n):=by decide
 unfold bU;rw[hn,Ld,gn,key n hlt,su];exact if_pos (by decide)
theorem mul_str(c n:Nat)(hn:n<1000)(M:Store):iW (.str [c]) (.int (n:Int)) M= .ok (.str (Yr n c)) M:=by rw[Zrm,if_pos ⟨by show 1*n<=1000000;omega,iN [_] [] 1 0xf42405b0893e83b011 T1 hn,iN [_] [] 0 615291837337 T1⟩];simp
theorem add_str{y:List Nat}(h:x.length+y.length<=1000)(M:Store):aN (.str x) (.str y) M= .ok (.str (x++y)) M:=by rw[ZsP,if_pos (Yi h (by decide))]
noncomputable def rJ(mo:Int)(k:Nat):List Nat:=Yr (1+(mo / 26 % 8).toNat) (bU (mo+k))
noncomputable def vg(mo:Int)(k:Nat):List Nat:=Zx.getD (((k:Int)+mo) % 12).toNat []++[bU (mo / 26)]
noncomputable def pG(mo:Int)(k:Nat):List Nat:=(Yr (1+k % 8) (bU mo)++Yr (k / 8) (bU (mo+1))).take 8
noncomputable def vh(mo:Int)(k:Nat):List Nat:=[bU (mo / 26)]++[bU (mo+k)]++Yr (mo / 676 % 7).toNat (bU (mo / 7))
noncomputable def j5(q:Int)(mo:Int)(k:Nat):List Nat:=if q=3 then vh mo k else if q=2 then pG mo k else if q=1 then vg mo k else rJ mo k
noncomputable def jB(q mo:Int)(k:Nat):List Nat:=if j5 q mo k∈Zx then j5 q mo k++[120]else j5 q mo k
theorem Ej:∀w∈Zx,3<=w.length/\w.length<=5/\(∀c∈w,97<=c/\c<=122)/\w.dropLast∉Zx/\w.getLast?≠Ya 120/\w[0]?≠w[1]?:=by decide
theorem Ij(mo:Int)(k:Nat):∃j:Nat,((k:Int)+mo) % 12=(j:Int)/\j<12/\Zx.getD (((k:Int)+mo) % 12).toNat []∈Zx/\Zx[j]?=Ya (Zx.getD (((k:Int)+mo) % 12).toNat []):=by
 obtain⟨j,ej,hj⟩:=oJ ((k:Int)+mo) 12 (by decide);have ej:((k:Int)+mo) % 12=(j:Int):=ej;have hj':j<Zx.length:=hj;refine⟨j,ej,hj,?_,?_⟩
 .rw[ej,su,Fb,Y3 hj'];exact t8 _
 .rw[ej,su,Fb,Y3 hj'];rfl
theorem N6(h:97<=c/\c<=122):∀x∈Yr n c,97<=x/\x<=122:=λx hx=>by rw[List.eq_of_mem_replicate hx];exact h
theorem Ik{y:List Nat}(h:∀c∈x,97<=c/\c<=122)(k:∀c∈y,97<=c/\c<=122):∀c∈x++y,97<=c/\c<=122:=λc hc=>(fj.mp hc).elim (h c) (k c)
theorem N7(h:97<=a/\a<=122):∀c∈[a],97<=c/\c<=122:=λc hc=>by rw[Yy.mp hc];exact h
theorem ZoC(q mo:Int)(k:Nat):1<=(j5 q mo k).length/\(j5 q mo k).length<=8/\∀c∈j5 q mo k,97<=c/\c<=122:=by
 have m8:0<=mo / 26 % 8/\mo / 26 % 8<8:=⟨qK _ (by decide),ur _ (by decide)⟩;have m7:0<=mo / 676 % 7/\mo / 676 % 7<7:=⟨qK _ (by decide),ur _ (by decide)⟩;unfold j5;by_cases h3:q=3
 .rw[if_pos h3];refine⟨by simp[vh],by simp[vh];exact iN [] [_] 1 6713175552145 T1 m7.2,Ik (Ik (N7 (zN _)) (N7 (zN _))) (N6 (zN _))⟩
 rw[if_neg h3];by_cases h2:q=2
 .rw[if_pos h2];refine⟨by simp[pG];omega,by simp[pG];exact(Q3 _ _),λc hc=>Ik (N6 (zN _)) (N6 (zN _)) c (List.take_subset _ _ hc)⟩
 rw[if_neg h2];by_cases h1:q=1
 .rw[if_pos h1];obtain⟨j,_,_,hm,_⟩:=Ij mo k;have w:=Ej _ hm;exact⟨by rw[vg,Yf];exact Ax _ _,by rw[vg,Yf,jj];exact lA 1 0x81ba0c051b001 T1 w.2.1,Ik w.2.2.1 (N7 (zN _))⟩
 .rw[if_neg h1];exact⟨by rw[rJ,nP];exact jd _ _,by rw[rJ,nP];exact iN [_] [_] 2 0x81b0ac0008a181b091 T1 m8.2 (nU m8.1),N6 (zN _)⟩
theorem Zv1(q mo:Int)(k:Nat):ZoS (jB q mo k):=by
 have f:=ZoC q mo k;unfold jB;by_cases h:j5 q mo k∈Zx
 .rw[if_pos h];have w:=Ej _ h;exact⟨by rw[Yf];exact Ax _ _,by rw[Yf,jj];exact lA 1 0x81ba0c051b001 T1 w.2.1,λz=>(Ej _ z).2.2.2.2.1 (by simp),Ik f.2.2 (N7 (by decide))⟩
 .rw[if_neg h];exact⟨f.1,f.2.1,h,f.2.2⟩
theorem ZoR{mo:Int}(hi:i<12)(hj:j<12)(h:bU (mo+i)=bU (mo+j)):i=j:=by have a1:=qK (mo+i) (b:=26) (by decide);have a2:=qK (mo+j) (b:=26) (by decide);unfold bU at h;omega
theorem Zpt{q mo:Int}{k m:Nat}(h:m<(j5 q mo k).length):(jB q mo k)[m]?=(j5 q mo k)[m]?:=by
 unfold jB;split
 .exact Yj h
 .rfl
theorem Zs4{q mo:Int}(hi:i<12)(hj:j<12)(h:jB q mo i=jB q mo j):i=j:=by
 by_cases h3:q=3
 .have e:∀k:Nat,j5 q mo k=vh mo k:=λk=>by unfold j5;rw[if_pos h3]
  have g:∀k:Nat,(jB q mo k)[1]?=Ya (bU (mo+k)):=λk=>by rw[Zpt (by rw[e];simp[vh]),e];rfl
  have:=g i;rw[h,g j]at this;exact(ZoR hj hi (Y2 this)).symm
 by_cases h2:q=2
 .have e:∀k:Nat,j5 q mo k=pG mo k:=λk=>by unfold j5;rw[if_neg h3,if_pos h2]
  have ne:bU mo≠bU (mo+1):=λz=>by unfold bU at z;omega
  have form:∀k:Nat,k<12->(k<8/\pG mo k=Yr (k+1) (bU mo))\/(8<=k/\pG mo k=Yr (k-7) (bU mo)++[bU (mo+1)]):=λk hk=>by
   by_cases z:k<8
   .left;refine⟨z,?_⟩;rw[pG,Nat.mod_eq_of_lt z,Nat.div_eq_of_lt z,mH 1 k,List.replicate_zero,kO,rT (by rw[nP];exact lA 1 0x81ba0c081b011 T1 z)]
   .right;refine⟨j8 z,?_⟩;have d1:k / 8=1:=by omega
    have d2:1+k % 8=k-7:=by omega
    rw[pG,d1,d2,rT (by rw[Yf,nP,nP];exact lB 2 0x81ba1c0071b1c21c1b011 T1 hk (Y9 (lA 1 488292593745 T1 z)))];rfl
  have nw:∀k:Nat,k<12->jB q mo k=pG mo k:=λk hk=>by
   unfold jB;rw[e,if_neg λz=>?_];have w:=Ej _ z;rcases form k hk with⟨z1,f⟩|⟨z1,f⟩
   .rw[f,nP]at w;apply w.2.2.2.2.2;rw[E_ (by exact lA 0 658657 T1),E_ (by exact lA 1 0xa0ca1a0c31b01 T1 w.1)]
   .rw[f,Yf,nP,jj]at w;apply w.2.2.2.2.2;rw[Yj (by rw[nP];exact lA 1 969064782593 T1 w.1),Yj (by rw[nP];exact lA 1 694186875649 T1 w.1),E_ (by exact lA 1 969064782593 T1 w.1),E_ (by exact lA 1 694186875649 T1 w.1)]
  rw[nw i hi,nw j hj]at h;have hl:=congrArg ud h;have hg:=congrArg List.getLast? h;rcases form i hi with⟨z1,f1⟩|⟨z1,f1⟩<;>rcases form j hj with⟨z2,f2⟩|⟨z2,f2⟩<;>rw[f1,f2]at hl hg
  .simp at hl;exact hl
  .simp[Z8]at hg;exact absurd hg ne
  .simp[Z8]at hg;exact absurd hg.symm ne
  .simp at hl;exact Y1 (lD 3 0x320371b1c2171b0c2011021 T1 hl (gO _ _) (Y9 (lA 1 488284625665 T1 z2))) (lD 3 0x23071b1c301271b0c211031 T1 hl (Y9 (lA 1 488284625665 T1 z1)) (gO _ _))
 by_cases h1:q=1
 .have e:∀k:Nat,j5 q mo k=vg mo k:=λk=>by unfold j5;rw[if_neg h3,if_neg h2,if_pos h1]
  have nw:∀k:Nat,jB q mo k=vg mo k:=λk=>by unfold jB;rw[e,if_neg λz=>?_];obtain⟨_,_,_,hm,_⟩:=Ij mo k;have w:=(Ej _ z).2.2.2.1;rw[vg,List.dropLast_concat]at w;exact w hm
  rw[nw,nw]at h;have h:=List.append_cancel_right h;obtain⟨a,ea,ha,_,ga⟩:=Ij mo i;obtain⟨b,eb,hb,_,gb⟩:=Ij mo j;rw[h]at ga;have hn:Zx.Nodup:=by decide
  have:=(Yk3 (show a<Zx.length from ha) hn).mp (ga.trans gb.symm);omega
 .have e:∀k:Nat,j5 q mo k=rJ mo k:=λk=>by unfold j5;rw[if_neg h3,if_neg h2,if_neg h1]
  have g:∀k:Nat,(jB q mo k)[0]?=Ya (bU (mo+k)):=λk=>by rw[Zpt (by rw[e,rJ,nP];exact lA 0 44257 T1),e,rJ,E_ (by exact lA 0 44257 T1)]
  have:=g i;rw[h,g j]at this;exact(ZoR hj hi (Y2 this)).symm
theorem Zvg(h:M[n]?=Ya (.lst (Zx.map D.str)))(x:List Nat):q8 (.str x) (.ref n) M= .ok (.bl (decide (x∈Zx))) M:=by
 have he:∀l:List (List Nat),(l.map D.str).any (λy=>dh y (.str x))=decide (x∈l):=by
  intro l
  induction l with
  |nil=>rfl|cons y l ih=>
   rw[Ys,lR,ih,Td];by_cases h:y=x
   .subst h;simp
   .have h':x≠y:=λe=>h e.symm;simp[h,h']
 have hf:(cJ (.str x)&&(Zx.map D.str).all cJ)=true:=rfl;rw[ZmX,h];simp only[hf,if_true,he]
theorem Ww{c:E3}{p:Prop}[Decidable p]{x y:D}(hc:c env M= .ok (.bl (decide p)) M)(hf:f env M= .ok x M)(hi:env[i]?=Ya (Ya y)):aK c (aA i f) aW env M= .nx (env.set i (Ya (if p then x else y))) M:=by
 by_cases h:p
 .rw[decide_eq_true h]at hc;rw[if_pos h];exact(fX hc).trans (Zq hf rfl)
 .rw[decide_eq_false h]at hc;rw[if_neg h];refine(cY hc).trans ?_;congr 1;apply xU;intro j;by_cases e:j=i
  .subst e;rw[Yw (Ye.mp hi).1,hi]
  .rw[Yp (dw e)]
theorem ZtJ{on:Nat}{v:Int}{acc:List D}{k:Nat}(ho:M[on]?=Ya (.lst (Zx.map D.str)))(hk:k<12)(hl:acc.length<100){v0 x9 x10:Option D}:
  ∃y9 y10,lnB [v0,Ya (.ref on),Ya (.str LET),Ya (.int v),Ya (.int (v / 4)),Ya (.str [bU (v / 4)]),Ya (.str [bU (v / 4 / 26)]),Ya (.ref M.length),Ya (.int (k:Int)),x9,x10] (M++[.lst acc])= .nx [v0,Ya (.ref on),Ya (.str LET),Ya (.int v),Ya (.int (v / 4)),Ya (.str [bU (v / 4)]),Ya (.str [bU (v / 4 / 26)]),Ya (.ref M.length),Ya (.int (k:Int)),y9,y10] (M++[.lst (acc++[.str (jB (v % 4) (v / 4) k)])]):=by
 let mo:=v / 4
 let S:=M++[MO.lst acc]
 have hoS:S[on]?=Ya (.lst (Zx.map D.str)):=bL ho _;have m8:0<=mo / 26 % 8/\mo / 26 % 8<8:=⟨qK _ (by decide),ur _ (by decide)⟩;have m7:0<=mo / 676 % 7/\mo / 676 % 7<7:=⟨qK _ (by decide),ur _ (by decide)⟩
 let En (n:List Nat):bK:=[v0,Ya (.ref on),Ya (.str LET),Ya (.int v),Ya (.int mo),Ya (.str [bU mo]),Ya (.str [bU (mo / 26)]),Ya (.ref M.length),Ya (.int (k:Int)),Ya (.str [bU (mo+k)]),Ya (.str n)]
 have q4:∀(n:List Nat) (c:Int),e2 bh (e2 aY (Za 3) (eC (.int 4))) (eC (.int c)) (En n) S= .ok (.bl (decide (v % 4=c))) S:=λn c=>Zh (Zh rfl rfl (gD (by decide))) rfl (by simp only[bh,yG]);have s9:aA 9 (e2 Zn (Za 2) (e2 aY (e2 aN (Za 4) (Za 8)) (eC (.int 26)))) [v0,Ya (.ref on),Ya (.str LET),Ya (.int v),Ya (.int mo),Ya (.str [bU mo]),Ya (.str [bU (mo / 26)]),Ya (.ref M.length),Ya (.int (k:Int)),x9,x10] S= .nx [v0,Ya (.ref on),Ya (.str LET),Ya (.int v),Ya (.int mo),Ya (.str [bU mo]),Ya (.str [bU (mo / 26)]),Ya (.ref M.length),Ya (.int (k:Int)),Ya (.str [bU (mo+k)]),x10] S:=Zq (Zh rfl (Zh (Zh rfl rfl rfl) rfl (gD (by decide))) (Ii _ _));obtain⟨e8,Wx⟩:∃n:Nat,mo / 26 % 8=(n:Int):=⟨(mo / 26 % 8).toNat,by exact qJ ((v_ _)) (wg (nU m8.1))⟩;obtain⟨e7,N8⟩:∃n:Nat,mo / 676 % 7=(n:Int):=⟨(mo / 676 % 7).toNat,qJ ((v_ _)) (wg (nU m7.1))⟩;have Ma:aA 10 (e2 iW (Za 9) (e2 aN (eC (.int 1)) (e2 aY (e2 b8 (Za 4) (eC (.int 26))) (eC (.int 8))))) [v0,Ya (.ref on),Ya (.str LET),Ya (.int v),Ya (.int mo),Ya (.str [bU mo]),Ya (.str [bU (mo / 26)]),Ya (.ref M.length),Ya (.int (k:Int)),Ya (.str [bU (mo+k)]),x10] S= .nx (En (rJ mo k)) S:=by
  refine Zq (d:=.str (rJ mo k)) (Zh (M2:=S) rfl (b:=.int ((1+e8:Nat):Int)) (Zh rfl (Zh (Zh rfl rfl (jx (by decide))) rfl (gD (by decide))) ?_) ?_)
  .rw[uH,Wx];congr 2
  .rw[mul_str _ _ (by exact iN [_] [_] 2 0x3e83b0ac181b091080b1 T1 Wx m8.2),rJ,Wx,su]
 obtain⟨j,ej,hj,hm,hg⟩:=Ij mo k;have w1:=Ej _ hm
 let n1:=rJ mo k
 let n2:=if v % 4=1 then vg mo k else n1
 let n3:=if v % 4=2 then pG mo k else n2
 let n4:=if v % 4=3 then vh mo k else n3
 have f1:e2 aN (e2 Zn (Za 1) (e2 aY (e2 aN (Za 8) (Za 4)) (eC (.int 12)))) (Za 6) (En n1) S= .ok (.str (vg mo k)) S:=by refine Zh (Zh rfl (Zh (Zh rfl rfl rfl) rfl (gD (by decide))) (iY hoS (d:=.str (Zx.getD (((k:Int)+mo) % 12).toNat [])) ?_)) rfl (add_str (by simp only[jj];exact lA 1 0x3e83ba0c051b001 T1 w1.2.1) S);rw[ej,gn,lO,hg,ej];rfl
 have LR:=Ww (i:=10) (q4 n1 1) f1 (y:=.str n1) rfl;have k8:((k:Int)) % 8=((k % 8:Nat):Int):=by omega
 have k8d:((k:Int)) / 8=((k / 8:Nat):Int):=by omega
 have t1:e2 aN (e2 iW (Za 5) (e2 aN (eC (.int 1)) (e2 aY (Za 8) (eC (.int 8))))) (e2 iW (e2 Zn (Za 2) (e2 aY (e2 aN (Za 4) (eC (.int 1))) (eC (.int 26)))) (e2 b8 (Za 8) (eC (.int 8)))) (En n2) S= .ok (.str (Yr (1+k % 8) (bU mo)++Yr (k / 8) (bU (mo+1)))) S:=by refine Zh (Zh rfl (b:=.int ((1+k % 8:Nat):Int)) (Zh rfl (Zh rfl rfl (gD (by decide))) (by rw[uH,k8];congr 2)) (mul_str _ _ (by exact lA 1 0x3e83b0ac181b011 T1 (FN _ (by decide))) S)) (Zh (Zh rfl (Zh (Zh rfl rfl rfl) rfl (gD (by decide))) (Ii _ _)) (b:=.int ((k / 8:Nat):Int)) (Zh rfl rfl ((jx (by decide)).trans (by rw[k8d]))) (mul_str _ _ (by exact lB 2 0x3e83b110108d01c1b011 T1 hk (Ay _ _)) S)) (add_str (by simp;exact lC 3 0x3e83b21acc00208d0181b111c1b011 T1 hk (FN _ (by decide)) (Ay _ _)) S)
 have s12:aK (e2 bh (e2 aY (Za 3) (eC (.int 4))) (eC (.int 2))) (Zr (aA 10 (e2 aN (e2 iW (Za 5) (e2 aN (eC (.int 1)) (e2 aY (Za 8) (eC (.int 8))))) (e2 iW (e2 Zn (Za 2) (e2 aY (e2 aN (Za 4) (eC (.int 1))) (eC (.int 26)))) (e2 b8 (Za 8) (eC (.int 8)))))) (aA 10 (eU (Za 10) (fV) (dG (eC (.int 8)))))) (aW) (En n2) S= .nx (En n3) S:=by
  by_cases h:v % 4=2
  .have c:=q4 n2 2;rw[decide_eq_true h]at c;have e3:n3=pG mo k:=if_pos h;rw[e3];refine(fX c).trans ((Zi (Zq (env':=En (Yr (1+k % 8) (bU mo)++Yr (k / 8) (bU (mo+1)))) t1 rfl)).trans (Zq (d:=.str (pG mo k)) ?_ rfl));show yI (.str _) Ym (Ya ((8:Nat):Int)) S=_;rw[BJ,if_pos (by rw[Yf,nP,nP];exact Yi (show _<=100 by exact lC 3 0x642b21acc00208d0181b111c1b011 T1 hk (FN _ (by decide)) (Ay _ _)) (by decide)),Zrk];rfl
  .have c:=q4 n2 2;rw[decide_eq_false h]at c;have e3:n3=n2:=if_neg h;rw[e3];exact cY c
 have f3:e2 aN (e2 aN (Za 6) (Za 9)) (e2 iW (e2 Zn (Za 2) (e2 aY (e2 b8 (Za 4) (eC (.int 7))) (eC (.int 26)))) (e2 aY (e2 b8 (Za 4) (eC (.int 676))) (eC (.int 7)))) (En n3) S= .ok (.str (vh mo k)) S:=by refine(Zh (Zh rfl rfl (add_str (x:=[bU (mo / 26)]) (y:=[bU (mo+k)]) (show 1+1<=1000 by decide) S)) (Zh (Zh rfl (Zh (Zh rfl rfl (jx (by decide))) rfl (gD (by decide))) (Ii _ _)) (b:=.int (e7:Int)) (Zh (Zh rfl rfl (jx (by decide))) rfl ((gD (by decide)).trans (by rw[N8]))) (mul_str _ _ (by exact iN [_] [_] 2 0x3e83b0171b091080b1 T1 N8 m7.2) S)) (add_str (by simp;exact iN [_] [_] 2 0x3e83b021bc071b091080b1 T1 N8 m7.2) S)).trans ?_;rw[vh,N8,su]
 have s13:=Ww (i:=10) (q4 n3 3) f3 (y:=.str n3) rfl;have eB:n4=j5 (v % 4) mo k:=by show(if v % 4=3 then vh mo k else if v % 4=2 then pG mo k else if v % 4=1 then vg mo k else rJ mo k)=_;rfl
 have fB:=ZoC (v % 4) mo k;have c5:e2 q8 (Za 10) (Za 1) (En n4) S= .ok (.bl (decide (n4∈Zx))) S:=Zh rfl rfl (Zvg hoS n4);have f5:e2 aN (Za 10) (eC (.str [120])) (En n4) S= .ok (.str (n4++[120])) S:=Zh rfl rfl (add_str (by rw[eB,jj];exact lA 1 0x3e83ba0c081b001 T1 fB.2.1) S);have s14:=Ww (i:=10) c5 f5 (y:=.str n4) rfl;have en:∀(p:Prop) [Decidable p] (a b c:List Nat),(En c).set 10 (Ya (if p then D.str a else D.str b))=En (if p then a else b):=λp _ a b c=>by by_cases h:p<;>simp[h,En]
 rw[en]at LR s13 s14;refine⟨_,_,(Zi s9).trans ((Zi Ma).trans ((Zi LR).trans ((Zi s12).trans ((Zi s13).trans ((Zi s14).trans (?_:_=O3.nx (En (jB (v % 4) mo k)) _))))))⟩;have eF:(if n4∈Zx then n4++[120]else n4)=jB (v % 4) mo k:=by rw[eB];rfl
 rw[eF];refine(VJ rfl (Zo M _ []) rfl (Zo M _ []) (nT hl (by decide))).trans ?_;simp[mo]
theorem ZoO{M:Store}{on:Nat}{v:Int}(ho:M[on]?=Ya (.lst (Zx.map D.str))){it:gm}(hi:it.lock=Ym){v0:Option D}:
  ∀(m k:Nat) (acc:List D) (x8 x9 x10:Option D),k+m=12->acc.length<=k->∃y8 y9 y10,dH it (bA 8) lnB ((vM k m).map λ(i:Nat)=>D.int (i:Int)) [v0,Ya (.ref on),Ya (.str LET),Ya (.int v),Ya (.int (v / 4)),Ya (.str [bU (v / 4)]),Ya (.str [bU (v / 4 / 26)]),Ya (.ref M.length),x8,x9,x10] (M++[.lst acc])= .nx [v0,Ya (.ref on),Ya (.str LET),Ya (.int v),Ya (.int (v / 4)),Ya (.str [bU (v / 4)]),Ya (.str [bU (v / 4 / 26)]),Ya (.ref M.length),y8,y9,y10] (M++[.lst (acc++(vM k m).map λi=>D.str (jB (v % 4) (v / 4) i))])
 |0,k,acc,x8,x9,x10,_,_=>⟨x8,x9,x10,by show dH _ _ _ [] _ _=_;rw[pZ,if_pos (by unfold locked;rw[hi])];simp⟩|m+1,k,acc,x8,x9,x10,h1,h2=>by obtain⟨y9,y10,hb⟩:=ZtJ (v:=v) (acc:=acc) (k:=k) ho (lB 1 0xc1b01c1ba1c0c21 T1 h1) (lC 2 0x642b01c1ba2c1c211001 T1 h2 h1) (v0:=v0) (x9:=x9) (x10:=x10);obtain⟨z8,z9,Wt,hl⟩:=ZoO ho hi m (k+1) (acc++[.str (jB (v % 4) (v / 4) k)]) (Ya (.int (k:Int))) y9 y10 (Y1 (lB 1 0xc1b1a0cc0c1ba1c0c21 T1 h1) (lB 1 0x1a0ccc1b0c1ba1c0c31 T1 h1)) (by rw[Yf];exact pO h2);refine⟨z8,z9,Wt,?_⟩;rw[Ylu,Ys,Ys,o8,if_pos (by unfold locked;rw[hi])];simp only[bA,lK,lM];rw[hb];simp only;rw[hl,gM];rfl
section
variable {cs:List Int} {c d aq:Nat} {M:Store}
theorem ZrL(dk:fc cs c d aq M)(ha:aq<900000):∃(S:Store) (n:Nat) (names:List (List Nat)),MP [.ref d] M= .ok (.ref n) S/\S[n]?=Ya (.lst (names.map D.str))/\M.length<=n/\names.length=12/\(∀x∈names,ZoS x)/\names.Nodup/\fc cs c d (aq+1) S/\Kp d M S:=by
 have ld:=dk.lt
 let M1:=M++[MO.lst (Zx.map D.str)]
 obtain⟨v,S1,hv,D1,xu,l1⟩:=(dk.app [MO.lst (Zx.map D.str)]).draw (lA 1 0xf42405b01dbba05b011 T1 ha);have ho:S1[M.length]?=Ya (.lst (Zx.map D.str)):=xu.get (Zo M _ []) (λz=>lB 2 25787699233 T1 z ld.2);obtain⟨y8,y9,y10,hl⟩:=ZoO (v:=v) ho (it:=⟨mZ 0 12,Ym⟩) rfl (v0:=Ya (.ref d)) 12 0 [] Ym Ym Ym rfl (Yt _)
 let names:=(vM 0 12).map λi=>jB (v % 4) (v / 4) i
 have en:(vM 0 12).map (λi=>D.str (jB (v % 4) (v / 4) i))=names.map D.str:=by rw[jH];rfl
 have er:(vM 0 12).map (λ(i:Nat)=>D.int (i:Int))=mZ 0 12:=by simp[mZ,List.range_eq_range']
 rw[jk,en,er]at hl;have hML:M.length<=S1.length:=by rw[l1];exact len_app M _
 refine⟨S1++[.lst (names.map D.str)],S1.length,names,?_,Zo _ _ _,hML,rfl,λx hx=>by obtain⟨i,_,rfl⟩:=dZ.mp hx;exact Zv1 _ _ i,?_,D1.app _,((Kp.app d M _).trans xu).trans (Kp.app d S1 _)⟩
 .refine(jQ (M':=S1++[.lst (names.map D.str)]) (env:=[Ya (.ref d),Ym,Ym,Ym,Ym,Ym,Ym,Ym,Ym,Ym,Ym]) ?_).trans (NQ hML);unfold Vm;refine(Zi (Zq (d:=.ref M.length) (M':=M1) (dz (ds:=Zx.map D.str) rfl rfl))).trans ((Zi (Zq (d:=.str LET) rfl)).trans ((Zi (Zq (dJ rfl hv))).trans ((Zi (Zq (d:=.int (v / 4)) (Zh rfl rfl (jx (by decide))))).trans ((Zi (Zq (Zh rfl (Zh rfl rfl (gD (by decide))) (Ii _ _)))).trans ((Zi (Zq (Zh rfl (Zh (Zh rfl rfl (jx (by decide))) rfl (gD (by decide))) (Ii _ _)))).trans ((Zi (Zq (d:=.ref S1.length) (M':=S1++[.lst []]) (dz rfl rfl))).trans ?_))))));have hr:sW (eC (.int 12)) [Ya (.ref d),Ya (.ref M.length),Ya (.str LET),Ya (.int v),Ya (.int (v / 4)),Ya (.str [bU (v / 4)]),Ya (.str [bU (v / 4 / 26)]),Ya (.ref S1.length),Ym,Ym,Ym] (S1++[.lst []])= .ok ⟨mZ 0 12,Ym⟩ (S1++[.lst []]):=by simp
  exact(Zi ((qX hr).trans hl)).trans (di rfl)
 .have key:∀l:List Nat,l.Nodup->(∀i∈l,i<12)->(l.map λi=>jB (v % 4) (v / 4) i).Nodup:=by
   intro l
   induction l with
   |nil=>intro _ _;exact Jt|cons i l ih=>intro hn PJ;rw[Ys,iR];refine⟨λhm=>?_,ih (iR.mp hn).2 λj hj=>PJ j (Yd _ hj)⟩;obtain⟨j,hj,e⟩:=dZ.mp hm;have:=Zs4 (PJ j (Yd _ hj)) (PJ i Yc) e;exact(iR.mp hn).1 (this▸hj)
  exact key _ (by decide) (by decide)
theorem Zrq(dk:fc cs c d aq M)(ha:aq<900000)(hnr:M[nr]?=Ya (.lst (names.map D.str)))(nd:nr≠d)(hn:names.length=12)(hnd:names.Nodup):
  ∃(S:Store) (tk:List (List Nat)),M8 [.ref d,.ref nr] M= .ok (.tup (tk.map D.str)) S/\tk.length<=6/\tk.Nodup/\(∀x∈tk,x∈names)/\mF cs c d M S aq (aq+1) 1:=by
 have ld:=dk.lt;obtain⟨v,S1,hv,D1,xu,l1⟩:=dk.draw (by exact lA 1 0xf42405b01dbba05b011 T1 ha);have hn1:S1[nr]?=Ya (.lst (names.map D.str)):=xu.get hnr nd;obtain⟨m,em,hm⟩:=oJ v 7 (by decide);have em:v % 7=(m:Int):=em
 let g:Nat->List Nat:=λk=>names.getD ((v / 7+k) % 12).toNat []
 have gx:∀k:Nat,∃a:Nat,(v / 7+k) % 12=(a:Int)/\a<12/\names[a]?=Ya (g k):=λk=>by obtain⟨a,ea,ha⟩:=oJ (v / 7+k) 12 (by decide);have ea:(v / 7+k) % 12=(a:Int):=ea;refine⟨a,ea,ha,?_⟩;show _=Ya (names.getD ((v / 7+k) % 12).toNat []);rw[ea,su,Fb,Y3 (by exact lB 2 72552035802787857 T1 ha hn)];rfl
 let tk:=(iC m).map g
 have lc:fW (sW (e2 aY (Za 2) (eC (.int 7)))) 1 (bA 3) [] (e2 Zn (Za 1) (e2 aY (e2 aN (e2 b8 (Za 2) (eC (.int 7))) (Za 3)) (eC (.int 12)))) [Ya (.ref d),Ya (.ref nr),Ya (.int v)] S1= .ok (.ref S1.length) (S1++[.lst ((iC m).map λk=>D.str (g k))]):=by
  refine VN (enc:=λ(k:Nat)=>D.int (0+(k:Int))) (h:=λk=>D.str (g k)) (as:=iC m) (M1:=S1) (lock:=Ym) (λe=>∃x,e=[Ya (.ref d),Ya (.ref nr),Ya (.int v),x]) ?_ (λn z=>nomatch z) ⟨_,rfl⟩ ?_ (by rw[Jq];exact lA 1 0x186a05b0071b011 T1 hm)
  .have hmod:e2 aY (Za 2) (eC (.int 7)) [Ya (.ref d),Ya (.ref nr),Ya (.int v)] S1= .ok (.int (m:Int)) S1:=Zh rfl rfl ((gD (by decide)).trans (by rw[em]));have:(m:Int)<=1000000/\ -1000000<=(m:Int):=⟨iN [_] [] 1 0xf42405b08871b011 T1 hm,iN [_] [] 0 615291837336 T1⟩;simp only[sW,hmod,R3.bind];simp[this,mZ]
  .intro k hk env ⟨x,e⟩;subst e;obtain⟨a,ea,Afc,hga⟩:=gx k;refine⟨_,rfl,⟨_,rfl⟩,λz=>Zh rfl (Zh (Zh (Zh rfl rfl (jx (by decide))) rfl rfl) rfl (gD (by decide))) (iY (bL hn1 _) ?_)⟩;rw[Bc,ea,gn,lO,hga];rfl
 have etk:(iC m).map (λk=>D.str (g k))=tk.map D.str:=by rw[jH];rfl
 rw[etk]at lc;have AbN:names.length=12:=hn;obtain⟨S,e,Dr⟩:=Ib (aq:=aq) (x:=.tup (tk.map D.str)) (n:=1) ld (D1.app [.lst (tk.map D.str)]) (xu.trans (Kp.app d S1 _)) (Yt _);refine⟨S,tk,(jQ (M':=S1++[.lst (tk.map D.str)]) (env:=[Ya (.ref d),Ya (.ref nr),Ym]) ?_).trans e,by simp[tk];exact lA 1 6713041334289 T1 hm,?_,λx hx=>?_,Dr⟩
 .unfold Vt;exact(Zi (Zq (dJ rfl hv))).trans (di (cC lc (nZ (Zo _ _ _))))
 .have key:∀l:List Nat,l.Nodup->(∀i∈l,i<7)->(l.map g).Nodup:=by
   intro l
   induction l with
   |nil=>intro _ _;exact Jt|cons i l ih=>
    intro hn Wy;rw[Ys,iR];refine⟨λhm=>?_,ih (iR.mp hn).2 λj hj=>Wy j (Yd _ hj)⟩;obtain⟨j,hj,e⟩:=dZ.mp hm;obtain⟨a,ea,ha,ga⟩:=gx j;obtain⟨b,eb,hb,gb⟩:=gx i;rw[e]at ga;have:=(Yk3 (show a<names.length by exact lB 2 72552035802787857 T1 ha AbN) hnd).mp (ga.trans gb.symm);have h1:=Wy j (Yd _ hj);have h2:=Wy i Yc;have:i=j:=by omega
    exact(iR.mp hn).1 (this▸hj)
  exact key _ List.nodup_range λi hi=>by have:=Jr.mp hi;exact nT this hm
 .obtain⟨k,_,rfl⟩:=dZ.mp hx;obtain⟨a,_,_,ga⟩:=gx k;exact xT ga
end
noncomputable def gW:Nat->D->Bool
 |_,.int _=>true|_,.str _=>true|_,.bl _=>true|n+1,.tup ds=>decide (ds.length<=1000)&&ds.all (gW n)
 |_,_=>false
theorem Zm3:∀(n:Nat) (d:D) (M:Store),gW n d=true->qt (n+1) [d,d] M= .ok (.bl true) M:=by
 intro n
 induction n with
 |zero=>
  intro d M h;cases d with
  |str x=>simp[qt,tH,Zr,aA,aQ,aK,aW,aU,bF,eV,below,cj,mW]|int i=>simp[qt,tH,Zr,aA,aQ,aK,aW,aU,bF,eV,below,cj,mW]|bl b=>simp[qt,tH,Zr,aA,aQ,aK,aW,aU,bF,eV,below,cj,mW]|_=>simp[gW]at h
 | succ n ih=>
  intro d M h;cases d with
  |str x=>simp[qt,tH,Zr,aA,aQ,aK,aW,aU,bF,eV,below,cj,mW]|int i=>simp[qt,tH,Zr,aA,aQ,aK,aW,aU,bF,eV,below,cj,mW]|bl b=>simp[qt,tH,Zr,aA,aQ,aK,aW,aU,bF,eV,below,cj,mW]|tup ds=>
   simp only[gW,Y6,decide_eq_true_eq,iw]at h;obtain⟨hl,hd⟩:=h;show bF 2 2 (tH (qt (n+1))) [.tup ds,.tup ds] M=_;generalize qt (n+1)=F at ih;have lc:=sZ (α:=Nat) (enc:=λk=>D.int (0+(k:Int))) (h:=λ_=>D.bl true) (own:=1) (i:=2) (it:=sW (aC bx (Zb (Za 1) (Zf)))) (elt:=Zz F (Zb (e2 Zn (Za 0) (Za 2)) (Zb (e2 Zn (Za 1) (Za 2)) (Zf)))) (env:=[Ya (.tup ds),Ya (.tup ds)]) (M:=M) (M1:=M) (lock:=Ym) (as:=iC ds.length)
    (by have:(ds.length:Int)<=1000000/\ -1000000<=(ds.length:Int):=⟨iN [_] [] 1 0xf42405b0883e83b001 T1 hl,iN [_] [] 0 615291837336 T1⟩;simp[this,mZ]) (λ_ h=>by cases h)
    (λk hk M=>by
     have hk':k<ds.length:=by simpa using hk
     have hg:ds[k]?=Ya ds[k]:=by simp[hk']
     have:=ih ds[k] M (hd _ (t8 hk'));have gk:g_ ds (0+(k:Int))=Ya ds[k]:=by rw[Bc,gn,hg]
     simp only[Zz,Zb,e2,Za,Zf,pM,jk,Yr,List.set,Jl,Fd,R3.bind,Tq,Tr,Ld,Tt,gk,this]) (by simp;exact lA 1 0x186a05b003e83b001 T1 hl)
   refine Rt.pure (G:=[.lst ((iC ds.length).map λ_=>D.bl true)]) (env:=[Ya (.tup ds),Ya (.tup ds)]) ?_ rfl;unfold tH;refine qW ((fX (M':=M) (by exact rfl)).trans ((Zi (cY (M':=M) (by exact rfl))).trans (di ((h_ (M1:=M) (by simp)).trans (cC lc ?_)))));simp[allB,BR,yM]
  |_=>simp[gW]at h
theorem ZiA:∀(n:Nat) (d:D),gW n d=true->gW (n+1) d=true
 |0,.int _,_=>rfl|0,.str _,_=>rfl|0,.bl _,_=>rfl|n+1,.int _,_=>rfl
 |n+1,.str _,_=>rfl|n+1,.bl _,_=>rfl|n+1,.tup ds,h=>by have h:(decide (ds.length<=1000)&&ds.all (gW n))=true:=h;show(decide (ds.length<=1000)&&ds.all (gW (n+1)))=true;rw[Y6,iw]at h ⊢;exact⟨h.1,λx hx=>ZiA n x (h.2 x hx)⟩
theorem Wz(h:n<=m){d:D}(p:gW n d=true):gW m d=true:=by
 induction h with
 |refl=>exact p|step _ ih=>exact ZiA _ _ ih
theorem vm(l:ds.length<=1000)(h:∀x∈ds,gW n x=true):gW (n+1) (.tup ds)=true:=by show(decide (ds.length<=1000)&&ds.all (gW n))=true;rw[Y6,iw];exact⟨decide_eq_true l,h⟩
theorem WD(n:Nat)(x:List Nat):gW n (.str x)=true:=by cases n<;>rfl
theorem WK{m:Nat}:∀{l:List D},(∀x∈l,below m x=true)->cj m l=true
 |[],_=>rfl|d::l,h=>by show(below m d&&cj m l)=true;rw[h d Yc,WK λx hx=>h x (Yd _ hx)];rfl
theorem ZiD(m:Nat):∀(n:Nat) (d:D),gW n d=true->below m d=true
 |0,.int _,_=>rfl|0,.str _,_=>rfl|0,.bl _,_=>rfl|n+1,.int _,_=>rfl
 |n+1,.str _,_=>rfl|n+1,.bl _,_=>rfl|n+1,.tup ds,h=>by have h:(decide (ds.length<=1000)&&ds.all (gW n))=true:=h;rw[Y6,iw]at h;show cj m ds=true;exact WK λx hx=>ZiD m n x (h.2 x hx)
theorem Zt0(h:mD w):gW n w=true:=by cases h<;>cases n<;>rfl
theorem Znc(H:cQ r):∀x∈r.tl,gW 1 x=true:=λx hx=>by
 rcases fj.mp hx with h|h
 .obtain⟨y,_,rfl⟩:=dZ.mp h;rfl
 .obtain⟨t,ht,rfl⟩:=dZ.mp h;exact vm (Yi (Nq ht) (Yi H.ok.len (by decide))) λw hw=>Zt0 (Eb t w hw)
theorem Zvo(H:cQ r):r.tl.length<=60:=by have h1:=H.le;have h2:=Nr r.ts;simp only[Rw.tl,Yf,Yu];exact lC 2 0x3c2b02c03b2b12c011001 T1 h2 h1
noncomputable def Il:List Pf->Prop
 |[]=>True|k::fs=>(k.cur.length<=1000/\∀x∈k.cur,gW (2*(13-fs.length)) x=true)/\(∀l∈k.cl,l.length<=1000/\∀x∈l,gW (2*(13-fs.length)) x=true)/\(∀x∈k.hd,gW 1 x=true)/\fs.length<=12/\Il fs
theorem Zr5(H:cQ r):∀{x y:List Pf},Il x->jA r x=Ya y->Il y
 |[],_,_,h=>nomatch h|k :: fs,y,P,h=>by
  have h:stepK r k fs=Ya y:=h;obtain⟨p1,p2,p3,p4,p5⟩:=P;unfold stepK at h;by_cases h1:kE r.h=true
  .rw[if_pos h1]at h;by_cases hl:fs.length+1<=12
   .rw[if_pos hl]at h;rw[←Y2 h];exact⟨⟨fC _,(λx hx=>nomatch hx)⟩,(λl hl=>nomatch hl),Znc H,hl,p1,p2,p3,p4,p5⟩
   .rw[if_neg hl]at h;cases h
  rw[if_neg h1]at h;by_cases h2:r.h=eZ
  .rw[if_pos h2]at h;by_cases hc:k.h=cD/\k.cl=[]
   .rw[if_pos hc]at h;rw[←Y2 h];exact⟨⟨fC _,(λx hx=>nomatch hx)⟩,(λl hl=>by rw[Yy.mp hl];exact p1),p3,p4,p5⟩
   .rw[if_neg hc]at h;cases h
  rw[if_neg h2]at h;by_cases h3:r.h=eO
  .rw [if_pos h3]at h;cases fs with
   |nil=>cases h|cons k2 fs=>
    simp only at h;by_cases hc:tM k.h=((k.cl.length+1:Nat):Int)/\k.hd.length<100/\k.cl.length<100/\k2.cur.length<1000
    .rw [if_pos hc]at h;rw [←Y2 h];obtain⟨q1,q2,q3,q4,q5⟩:=p5;rw[Yk]at p1 p2 p4;have ed:2*(13-fs.length)=2*(13-(fs.length+1))+1+1:=Y1 (lC 2 0xaa202dcc002d0a1c2cd1b02d1b10c22 T1 (Y9 (lA 1 0xd1b00c1b001 T1 q4)) (gO _ _)) (lC 2 0x2daa202dcc0d1ba1c2c2210cd1b02 T1 (gO _ _) (Y9 (lA 1 0xd1ba0c0c1b001 T1 q4)));have hw:gW (2*(13-fs.length)) k.whole=true:=by
      rw[ed];refine vm ?_ λx hx=>?_
      .simp only[Yf,Yk,Yu,Fi];exact lB 2 0x3e83baec1ca0cc0642b111642b011 T1 hc.2.1 hc.2.2.1
      .rcases fj.mp hx with z|z
       .rcases Yo.mp z with e|e
        .rw[e];exact WD _ _
        .exact Wz (Ax _ _) (p3 x e)
       .obtain⟨l,hl,rfl⟩:=dZ.mp z;rcases fj.mp hl with e|e
        .exact vm (p2 l e).1 (p2 l e).2
        .rw[Yy.mp e];exact vm p1.1 p1.2
     refine⟨⟨by rw[Yf,jj];exact hc.2.2.2,λx hx=>?_⟩,q2,q3,q4,q5⟩;rcases fj.mp hx with z|z
     .exact q1.2 x z
     .rw[Yy.mp z];exact hw
    .rw[if_neg hc]at h;cases h
  rw[if_neg h3]at h;by_cases hc:k.cur.length<1000
  .rw[if_pos hc]at h;rw[←Y2 h];have hd:gW (2*(13-fs.length)) (.tup r.deed)=true:=by
    refine Wz (n:=2) (lB 2 0x102d21b001cd1b02c1b002 T1 p4 (gO _ _)) (vm (n:=1) ?_ λx hx=>?_)
    .rw[Nx,Yk];have:=Zvo H;exact lA 1 0x3e83ba0c03c2b001 T1 this
    .rw[Nx]at hx;rcases Yo.mp hx with e|e
     .rw[e];rfl
     .exact Znc H x e
   refine⟨⟨by rw[Yf,jj];exact hc,λx hx=>?_⟩,p2,p3,p4,p5⟩;rcases fj.mp hx with z|z
   .exact p1.2 x z
   .rw[Yy.mp z];exact hd
  .rw[if_neg hc]at h;cases h
theorem Zpf:∀(rs:List Rw) (x y:List Pf),(∀r∈rs,cQ r)->Il x->kI rs x=Ya y->Il y
 |[],x,y,_,P,h=>by cases h;exact P|r::rs,x,y,H,P,h=>by
  have h:(jA r x).bind (kI rs)=Ya y:=h;cases e:jA r x with
  |none=>rw[e]at h;cases h|some z=>rw[e]at h;exact Zpf rs z y (λq hq=>H q (Yd _ hq)) (Zr5 (H r Yc) P e) h
theorem run_plain(H:∀r∈rs,cQ r)(h:kI rs Ei=Ya [⟨jZ,[],[],ds⟩]):ds.length<=1000/\∀x∈ds,gW 26 x=true:=by have:=Zpf rs Ei _ H ⟨⟨fC _,(λx hx=>nomatch hx)⟩,(λl hl=>nomatch hl),(λx hx=>nomatch hx),fC _,trivial⟩ h;exact this.1
noncomputable def Rw.iM(r:Rw):List D:=.str r.h::(r.xs.map D.str++bQ r.ts)
noncomputable abbrev headD(w:List Nat)(t:Sm):List D:=.str w::t.flat
inductive Sh:List D->List (List D)->Nat->Prop
 |nil (n:Nat):Sh [] [] n
 |row {ds:List D} {R:List (List D)} {n:Nat} (r:Rw) (ok:cQ r) (p:NP r) (h:Sh ds R n):Sh (ds++[.tup r.deed]) (R++[r.iM]) n
 |whn {ds a b:List D} {R A B:List (List D)} {n:Nat} (t:Sm) (ok:cQ ⟨cD,[],[t]⟩) (ha:Sh a A n) (hb:Sh b B n) (h:Sh ds R (n+1)):Sh (ds++[.tup [.str cD,.tup t.flat,.tup a,.tup b]]) (R++(headD cD t::(A++[.str eZ]::(B++[[.str eO]])))) (n+1)
 |whl {ds a:List D} {R A:List (List D)} {n:Nat} (t:Sm) (ok:cQ ⟨fP,[],[t]⟩) (ha:Sh a A n) (h:Sh ds R (n+1)):Sh (ds++[.tup [.str fP,.tup t.flat,.tup a]]) (R++(headD fP t::(A++[[.str eO]]))) (n+1)
inductive j6:List Pf->List (List D)->Prop
 |base {cur:List D} {R:List (List D)} (h:Sh cur R 12):j6 [⟨jZ,[],[],cur⟩] R
 |one {w:List Nat} {t:Sm} {fs:List Pf} {R0 R:List (List D)} {cur:List D} {n:Nat} (ok:cQ ⟨w,[],[t]⟩) (bl:w=cD\/w=fP) (h0:j6 fs R0) (h:Sh cur R n) (l:n+fs.length=12):j6 (⟨w,[.tup t.flat],[],cur⟩::fs) (R0++(headD w t::R))
 |two {t:Sm} {fs:List Pf} {R0 A R:List (List D)} {a cur:List D} {n:Nat} (ok:cQ ⟨cD,[],[t]⟩) (h0:j6 fs R0) (ha:Sh a A n) (h:Sh cur R n) (l:n+fs.length=12):j6 (⟨cD,[.tup t.flat],[a],cur⟩::fs) (R0++(headD cD t::(A++[.str eZ]::R)))
variable{R:List (List D)}
theorem j6.add{k:Pf}{fs:List Pf}{Q:List (List D)}{d:D}(H:j6 (k::fs) R)(hd:∀{ds:List D} {P:List (List D)} {n:Nat},n+fs.length=12->Sh ds P n->Sh (ds++[d]) (P++Q) n):j6 (⟨k.h,k.hd,k.cl,k.cur++[d]⟩::fs) (R++Q):=by
 cases H with
 |base h=>exact .base (hd rfl h)|one ok bl h0 h l=>rw[gM,pM];exact .one ok bl h0 (hd l h) l
 |two ok h0 ha h l=>have:=j6.two ok h0 ha (hd l h) l;simp only[gM,pM]at this ⊢;exact this
theorem Zwh(H:cQ r)(hb:kE r.h=true):∃t,r=⟨r.h,[],[t]⟩/\(r.h=cD\/r.h=fP):=by
 obtain⟨h,xs,ts⟩:=r;have hs:=H.sm;have hx:=H.nx;have hw:h=cD\/h=fP:=by
  by_cases h1:h=cD
  .exact .inl h1
  by_cases h2:h=fP
  .exact .inr h2
  have:kE h=false:=by unfold kE;simp only[oA,dD,if_neg h1,if_neg h2];rfl
  rw[show kE h=true from hb]at this;cases this
 have hl:ts.length=1:=by rcases hw with e|e<;>(subst e;have:=Y2 hs;simp only at this;exact Y1 (iN [_] [] 1 2684390065 T1 this) (iN [_] [] 1 167807649 T1 this))
 have hx0:xs=[]:=by rcases hw with e|e<;>(subst e;exact Fe.mp hx)
 match ts,hl with
 |[t],_=>exact⟨t,by rw[hx0],hw⟩
theorem ZoH(H:cQ r){w:List Nat}(hw:r.h=w)(h0:dD w jY=Ya 0)(hn:w≠jh):r=⟨w,[],[]⟩:=by obtain⟨h,xs,ts⟩:=r;obtain rfl:h=w:=hw;have hs:dD h jY=Ya (ts.length:Int):=H.sm;rw[h0]at hs;have h1:=Y2 hs;have hx:xs.length=if h=jh then 1 else 0:=H.nx;rw[if_neg hn]at hx;rw[Fe.mp hx,Fe.mp (by exact Y1 (iN [_] [] 1 3758132913 T1 h1) (fC _):ts.length=0)]
theorem j6.step(H:cQ r){x y:List Pf}(S:j6 x R)(h:jA r x=Ya y):j6 y (R++[r.iM]):=by
 cases x with
 |nil=>cases h|cons k fs=>
  have h:stepK r k fs=Ya y:=h;unfold stepK at h;by_cases h1:kE r.h=true
  .rw[if_pos h1]at h;by_cases hl:fs.length+1<=12
   .rw[if_pos hl]at h;rw[←Y2 h];obtain⟨t,e,hw⟩:=Zwh H h1;have ok:cQ ⟨r.h,[],[t]⟩:=e▸H;have q:=j6.one ok hw S (Sh.nil (12-(fs.length+1))) (by rw[Yk];exact Y1 (j9 (Y9 hl)) ((gO _ _)));rw[e];have e2:Rw.iM ⟨r.h,[],[t]⟩=headD r.h t:=by simp[Rw.iM,bQ]
    rw[e2];exact q
   .rw[if_neg hl]at h;cases h
  rw[if_neg h1]at h;by_cases h2:r.h=eZ
  .rw[if_pos h2]at h;by_cases hc:k.h=cD/\k.cl=[]
   .rw[if_pos hc]at h;rw[←Y2 h,ZoH H h2 rfl (by decide)];obtain⟨c1,c2⟩:=hc;cases S with
    |base hh=>exact absurd (show jZ=cD from c1) (by decide)|one ok bl h0 hh l=>obtain rfl:=c1;have q:=j6.two ok h0 hh (Sh.nil _) l;simp only[gM,pM]at q ⊢;exact q
    |two ok h0 ha hh l=>cases c2
   .rw[if_neg hc]at h;cases h
  rw[if_neg h2]at h;by_cases h3:r.h=eO
  .rw [if_pos h3]at h;cases fs with
   |nil=>cases h|cons k2 fs=>
    simp only at h;by_cases hc:tM k.h=((k.cl.length+1:Nat):Int)/\k.hd.length<100/\k.cl.length<100/\k2.cur.length<1000
    .rw[if_pos hc]at h;rw[←Y2 h,ZoH H h3 rfl (by decide)];cases S with
     | @one w t _ R0 R' cur n ok bl h0 hh l=>
      have hw:w=fP:=by
       rcases bl with e|e
       .have:=hc.1;rw[e]at this;exact absurd (show tM cD=((0+1:Nat):Int)from this) (by decide)
       .exact e
      subst hw;have q:=h0.add (d:=Pf.whole ⟨fP,[.tup t.flat],[],cur⟩) (Q:=headD fP t::(R'++[[.str eO]])) @λ_ _ m hn hs=>by rw[Yk]at l;have e1:m=n+1:=Y1 (lC 2 0xa2c00c1ba1c2c31c1b10c21 T1 hn l) (lC 2 0xa2c0c1ba1c2c21c1b10c31 T1 hn l);subst e1;exact Sh.whl t ok hh hs
      simp only[gM,pM]at q ⊢;exact q
     | @two t _ R0 A R' a cur n ok h0 ha hh l=>
      have q:=h0.add (d:=Pf.whole ⟨cD,[.tup t.flat],[a],cur⟩) (Q:=headD cD t::(A++[.str eZ]::(R'++[[.str eO]]))) @λ_ _ m hn hs=>by rw[Yk]at l;have e1:m=n+1:=Y1 (lC 2 0xa2c00c1ba1c2c31c1b10c21 T1 hn l) (lC 2 0xa2c0c1ba1c2c21c1b10c31 T1 hn l);subst e1;exact Sh.whn t ok ha hh hs
      simp only[gM,pM]at q ⊢;exact q
    .rw[if_neg hc]at h;cases h
  rw[if_neg h3]at h;by_cases hc:k.cur.length<1000
  .rw[if_pos hc]at h;rw[←Y2 h];exact S.add λ_ hs=>Sh.row r H ⟨by simpa using h1,h2,h3⟩ hs
  .rw[if_neg hc]at h;cases h
theorem j6.run:∀(rs:List Rw) (x y:List Pf) (R:List (List D)),(∀r∈rs,cQ r)->j6 x R->kI rs x=Ya y->j6 y (R++rs.map Rw.iM)
 |[],x,y,R,_,S,h=>by cases h;simpa using S|r::rs,x,y,R,H,S,h=>by
  have h:(jA r x).bind (kI rs)=Ya y:=h;cases e:jA r x with
  |none=>rw[e]at h;cases h|some z=>rw[e]at h;have:=j6.run rs z y _ (λq hq=>H q (Yd _ hq)) (S.step (H r Yc) e) h;simpa using this
theorem ZvO(H:∀r∈rs,cQ r)(h:kI rs Ei=Ya [⟨jZ,[],[],ds⟩]):Sh ds (rs.map Rw.iM) 12:=by
 have:=j6.run rs Ei _ [] H (.base (.nil 12)) h;rw[jk]at this;cases this with
 |base h=>exact h
theorem zO(h:M<+:S)(e:M[n]?=Ya o):S[n]?=Ya o:=by obtain⟨G,rfl⟩:=h;exact bL e G
theorem WL{r:Nat}(h:M<+:S)(hr:M.length<=r):M<+:S.set r o:=by obtain⟨G,rfl⟩:=h;obtain⟨k,rfl⟩:=Nat.le.dest hr;rw[GQ];exact⟨_,rfl⟩
def LE(f:E3)(env:bK)(M:Store)(xs:List D):Prop:=∃n S,f env M= .ok (.ref n) S/\M<+:S/\S[n]?=Ya (.lst xs)
def LF(f:E3)(env:bK)(M:Store)(xs:List D):Prop:=∃n S,f env M= .ok (.ref n) S/\M<+:S/\S[n]?=Ya (.lst xs)/\M.length<=n
def FL(F:F3)(ds:List D)(M:Store)(xs:List D):Prop:=∃n S,F ds M= .ok (.ref n) S/\M<+:S/\S[n]?=Ya (.lst xs)/\M.length<=n
def BL(M0:Store)(u:S3)(env:bK)(M:Store)(xs:List D):Prop:=∃n S,u env M= .rt (.ref n) S/\M0<+:S/\S[n]?=Ya (.lst xs)/\M0.length<=n
theorem LF.le(h:LF f env M xs):LE f env M xs:=let⟨n,S,a,b,c,_⟩:=h;⟨n,S,a,b,c⟩
theorem LE.add{x:List D}(hf:LE f env M x)(hg:∀S,M<+:S->LE g env S y)(hz:x.length+y.length<=900000):LF (e2 aN f g) env M (x++y):=by obtain⟨n,S,h1,p1,g1⟩:=hf;obtain⟨m,S2,h2,p2,g2⟩:=hg S p1;exact⟨S2.length,S2++[.lst (x++y)],Zh h1 h2 (Ia (zO p2 g1) g2 hz),(p1.trans p2).trans (t7 _ _),Zo _ _ _,(p1.trans p2).length_le⟩
theorem LE.var{x:List D}(h:Za i env M= .ok (.ref n) M)(hx:M[n]?=Ya (.lst x)):LE (Za i) env M x:=⟨n,M,h,Ai _,hx⟩
theorem LF.lst{g:eQ}{env:bK}{M:Store}{ds:List D}(h:g env M= .ok ds M)(hl:decide (ds.length<=100)=true):LF (aV g) env M ds:=⟨M.length,M++[.lst ds],dz h hl,t7 _ _,Zo _ _ _,Yt _⟩
theorem LF.call{F:F3}{g:eQ}{x:List D}(h:g env M= .ok ds M)(hF:FL F ds M x):LF (Zz F g) env M x:=by obtain⟨n,S,h1,p1,g1⟩:=hF;exact⟨n,S,by simp only[Zz,h,R3.bind,h1],p1,g1⟩
variable{M0:Store}
theorem BL.set{u:S3}{x:List D}(hf:LE f env M x)(hu:∀n S,M<+:S->S[n]?=Ya (.lst x)->BL M0 u (env.set i (Ya (.ref n))) S xs):BL M0 (Zr (aA i f) u) env M xs:=by obtain⟨n,S,h1,p1,g1⟩:=hf;obtain⟨m,S2,h2,r⟩:=hu n S p1 g1;exact⟨m,S2,(Zi (Zq h1 rfl)).trans h2,r⟩
theorem BL.ret(hf:LF f env M xs)(p:M0<+:M):BL M0 (aQ f) env M xs:=by obtain⟨n,S,h1,p1,g1,l1⟩:=hf;exact⟨n,S,di h1,p.trans p1,g1,Yi p.length_le l1⟩
theorem BL.skip{c:E3}{u v:S3}(hc:c env M= .ok (.bl false) M)(hv:BL M0 v env M xs):BL M0 (Zr (aK c u aW) v) env M xs:=by obtain⟨n,S,h1,r⟩:=hv;exact⟨n,S,(Zi (cY hc)).trans h1,r⟩
theorem BL.take{c:E3}{u v w:S3}(hc:c env M= .ok (.bl true) M)(hu:BL M0 u env M xs):BL M0 (Zr (aK c u w) v) env M xs:=by obtain⟨n,S,h1,r⟩:=hu;exact⟨n,S,qW ((fX hc).trans h1),r⟩
theorem BL.step{u v:S3}{env':bK}(hu:u env M= .nx env' S)(hv:BL M0 v env' S xs):BL M0 (Zr u v) env M xs:=by obtain⟨n,S2,h1,r⟩:=hv;exact⟨n,S2,(Zi hu).trans h1,r⟩
theorem FL.of{ps:Nat}{body:S3}(h:BL M body env M xs)(hl:ds.length=ps)(he:ds.map Ya++Yr (n-ps) Ym=env):FL (bF ps n body) ds M xs:=by obtain⟨k,S,h1,p1,g1,l1⟩:=h;refine⟨k,S,(jQ (n:=n) h1 hl he).trans ?_,p1,g1,l1⟩;have hb:below M.length (.ref k)=false:=decide_eq_false (λz=>lB 2 25786650641 T1 z l1);rw[eV,hb];rfl
theorem ZuS{o t:E3}{r:Nat}{ys:List D}(ho:o env M= .ok (.ref r) M)(hr:M[r]?=Ya (.lst xs))(ht:LF t env M ys)(hz:xs.length+ys.length<=900000):
  ∃S,aU (aG bj m_ o (Zb t Zf)) env M= .nx env (S.set r (.lst (xs++ys)))/\M<+:S:=by
 obtain⟨n,S,h1,p1,g1,l1⟩:=ht;refine⟨S,p6 (d:=.non) (Ef ho (by rw[yN,hr]) (Zt h1 rfl) ?_),p1⟩;have hlt:=(Ye.mp hr).1;rw[yQ,zO p1 hr,g1];exact if_pos ⟨(λz=>lC 3 0x6120120111031 T1 z hlt l1),Yi hz (by decide)⟩
def oR(F:F3)(d:D)(h:List (List D)):Prop:=∀(M:Store),FL F [d] M (h.map D.tup)
abbrev Ek(F:F3)(ds:List D)(R:List (List D)):Prop:=oR F (.tup ds) R
theorem N_{a b:List Nat}(h:a=b):bh (.str a) (.str b) M= .ok (.bl true) M:=iz.trans (by rw[decide_eq_true h])
theorem vo{a b:List Nat}(h:¬a=b):bh (.str a) (.str b) M= .ok (.bl false) M:=iz.trans (by rw[decide_eq_false h])
theorem zP{x:List D}(h:x.length+y.length<=1000)(M:Store):aN (.tup x) (.tup y) M= .ok (.tup (x++y)) M:=by rw[Th];exact if_pos (Yi h (by decide))
theorem WM{r:Rw}(H:cQ r){t:Sm}(h:t∈r.ts):t.flat.length<=60:=Yi (Nq h) H.ok.len
theorem Zu6(rec:Nat->F3){t:Sm}(hl:t.flat.length<=60):oR (bF 1 3 (oF rec)) (.tup [.str jh,.str x,.tup t.flat]) [.str jh:: .str x::t.flat]:=by intro M;refine FL.of (env:=[Ya (.tup [.str jh,.str x,.tup t.flat]),Ym,Ym]) ?_ rfl rfl;unfold oF;have hsl:eU (Za 0) (fV) (dG (e1 cL (eC (.int 1)))) [Ya (.tup [.str jh,.str x,.tup t.flat]),Ym,Ym] M= .ok (.tup [.str jh,.str x]) M:=rfl;exact BL.skip (Zh rfl rfl (vo (by decide))) (BL.skip (Zh rfl rfl (vo (by decide))) (BL.skip (Zh rfl rfl (vo (by decide))) (BL.ret (LF.lst (Zt (Zh hsl (Zh rfl rfl rfl) (zP (x:=[.str jh,.str x]) (y:=t.flat) (by simp;exact lA 1 0x3e83b021bc03c2b001 T1 hl) M)) rfl) rfl) (Ai _))))
theorem Zum(rec:Nat->F3){t:Sm}(hl:t.flat.length<=60):oR (bF 1 3 (oF rec)) (.tup [.str oN,.tup t.flat]) [.str oN::t.flat]:=by intro M;refine FL.of (env:=[Ya (.tup [.str oN,.tup t.flat]),Ym,Ym]) ?_ rfl rfl;unfold oF;have hsl:eU (Za 0) (fV) (dG (e1 cL (eC (.int 1)))) [Ya (.tup [.str oN,.tup t.flat]),Ym,Ym] M= .ok (.tup [.str oN]) M:=rfl;exact BL.skip (Zh rfl rfl (vo (by decide))) (BL.skip (Zh rfl rfl (vo (by decide))) (BL.skip (Zh rfl rfl (vo (by decide))) (BL.ret (LF.lst (Zt (Zh hsl (Zh rfl rfl rfl) (zP (x:=[.str oN]) (y:=t.flat) (by simp;exact lA 1 0x3e83b0ac03c2b001 T1 hl) M)) rfl) rfl) (Ai _))))
theorem ZwJ(rec:Nat->F3){t u:Sm}(hl:t.flat.length<=60)(hl2:u.flat.length<=60):oR (bF 1 3 (oF rec)) (.tup [.str oM,.tup t.flat,.tup u.flat]) [.str oM::(t.flat++u.flat)]:=by intro M;refine FL.of (env:=[Ya (.tup [.str oM,.tup t.flat,.tup u.flat]),Ym,Ym]) ?_ rfl rfl;unfold oF;exact BL.skip (Zh rfl rfl (vo (by decide))) (BL.skip (Zh rfl rfl (vo (by decide))) (BL.take (Zh rfl rfl (N_ rfl)) (BL.ret (LF.lst (Zt (Zh (Zh (gP rfl rfl) rfl (zP (x:=[.str oM]) (y:=t.flat) (by simp;omega) M)) rfl (zP (x:=.str oM::t.flat) (y:=u.flat) (by simp;omega) M)) rfl) rfl) (Ai _))))
theorem ZuV(rec:Nat->F3)(H:cQ r)(p:NP r):oR (bF 1 3 (oF rec)) (.tup r.deed) [r.iM]:=by
 obtain⟨h,xs,ts⟩:=r;have hs:dD h jY=Ya (ts.length:Int):=H.sm;have hx:xs.length=if h=jh then 1 else 0:=H.nx;have Oa:=@WM _ _ H;rcases Ie (zM H)with e|e|e|e|e|e|e
 .obtain rfl:h=jh:=e;have h1:(1:Int)=ts.length:=Y2 hs;rw[if_pos rfl]at hx
  match ts,xs,(show ts.length=1 by exact Y1 (iN [_] [] 1 2684390065 T1 h1) (iN [_] [] 1 167807649 T1 h1)),hx with
  |[t],[x],_,_=>
   have e2:Rw.iM ⟨jh,[x],[t]⟩= .str jh:: .str x::t.flat:=by simp[Rw.iM,bQ]
   rw[e2];exact Zu6 rec (Oa Yc)
 .obtain rfl:h=oM:=e;have h1:(2:Int)=ts.length:=Y2 hs;rw[if_neg (by decide)]at hx
  match ts,xs,(show ts.length=2 by exact Y1 (iN [_] [] 1 37039806487473 T1 h1) (iN [_] [] 1 2314995899297 T1 h1)),hx with
  |[t,u],[],_,_=>
   have e2:Rw.iM ⟨oM,[],[t,u]⟩= .str oM::(t.flat++u.flat):=by simp[Rw.iM,bQ]
   rw[e2];exact ZwJ rec (Oa Yc) (Oa (Yd _ Yc))
 .obtain rfl:h=oN:=e;have h1:(1:Int)=ts.length:=Y2 hs;rw[if_neg (by decide)]at hx
  match ts,xs,(show ts.length=1 by exact Y1 (iN [_] [] 1 2684390065 T1 h1) (iN [_] [] 1 167807649 T1 h1)),hx with
  |[t],[],_,_=>
   have e2:Rw.iM ⟨oN,[],[t]⟩= .str oN::t.flat:=by simp[Rw.iM,bQ]
   rw[e2];exact Zum rec (Oa Yc)
 .have:=p.b;rw[show Rw.h ⟨h,xs,ts⟩=cD from e]at this;cases this
 .exact absurd e p.e
 .have:=p.b;rw[show Rw.h ⟨h,xs,ts⟩=fP from e]at this;cases this
 .exact absurd e p.n
theorem Zv0{rec:Nat->F3}{t:Sm}{a b:List D}{A B:List (List D)}(hl:t.flat.length<=60)(ha:Ek (rec 0) a A)(hb:Ek (rec 0) b B)(hw:A.length+B.length<=700000):oR (bF 1 3 (oF rec)) (.tup [.str cD,.tup t.flat,.tup a,.tup b]) (headD cD t::(A++[.str eZ]::(B++[[.str eO]]))):=by
 intro M;refine FL.of (env:=[Ya (.tup [.str cD,.tup t.flat,.tup a,.tup b]),Ym,Ym]) ?_ rfl rfl;unfold oF;refine BL.take (Zh rfl rfl (N_ rfl)) (BL.set (LF.call (ds:=[.tup a]) rfl (ha M)).le λn1 S1 p1 g1=>BL.set (LF.call (ds:=[.tup b]) rfl (hb S1)).le λn2 S2 p2 g2=>?_);have h:=LE.add (LE.add (LE.add (LE.add (env:=[Ya (.tup [.str cD,.tup t.flat,.tup a,.tup b]),Ya (.ref n1),Ya (.ref n2)]) (M:=S2) (LF.lst (ds:=[.tup (.str cD::t.flat)]) (g:=Zb (e2 aN (bY (Zb (eC (.str [119,104,101,110])) (Zf))) (e2 Zn (Za 0) (eC (.int 1)))) (Zf)) (Zt (Zh (gP rfl rfl) rfl (zP (x:=[.str cD]) (y:=t.flat) (by simp;exact lA 1 0x3e83b0ac03c2b001 T1 hl) S2)) rfl) rfl).le (λT pT=>LE.var (i:=1) rfl (zO (p2.trans pT) g1)) (by simp;exact lB 1 0xdbba05b0ac0aae605b10c01 T1 hw)).le (λT pT=>(LF.lst (ds:=[.tup [.str [101,108,115,101]]]) (g:=Zb (bY (Zb (eC (.str [101,108,115,101])) (Zf))) (Zf)) (Zt (gP rfl rfl) rfl) rfl).le) (by simp;exact lB 1 0xdbb9e5b00aae605b10c01 T1 hw)).le (λT pT=>LE.var (i:=2) rfl (zO pT g2)) (by simp;exact lB 1 0xdbba05b1aa0ccc0aae605b10c01 T1 hw)).le (λT pT=>(LF.lst (ds:=[.tup [.str [101,110,100]]]) (g:=Zb (bY (Zb (eC (.str [101,110,100])) (Zf))) (Zf)) (Zt (gP rfl rfl) rfl) rfl).le) (by simp;exact lB 1 0xdbb9e5ba1c0c0aae605b10c01 T1 hw);have e:[D.tup (.str cD::t.flat)]++A.map D.tup++[.tup [.str [101,108,115,101]]]++B.map D.tup++[.tup [.str [101,110,100]]]=(headD cD t::(A++[.str eZ]::(B++[[.str eO]]))).map D.tup:=by simp
 rw[e]at h;exact BL.ret h (p1.trans p2)
theorem Zu5{rec:Nat->F3}{t:Sm}{a:List D}{A:List (List D)}(hl:t.flat.length<=60)(ha:Ek (rec 0) a A)(hw:A.length<=700000):oR (bF 1 3 (oF rec)) (.tup [.str fP,.tup t.flat,.tup a]) (headD fP t::(A++[[.str eO]])):=by
 intro M;refine FL.of (env:=[Ya (.tup [.str fP,.tup t.flat,.tup a]),Ym,Ym]) ?_ rfl rfl;unfold oF;have h:=LE.add (LE.add (env:=[Ya (.tup [.str fP,.tup t.flat,.tup a]),Ym,Ym]) (M:=M) (LF.lst (ds:=[.tup (.str fP::t.flat)]) (g:=Zb (e2 aN (bY (Zb (eC (.str [119,104,105,108,101])) (Zf))) (e2 Zn (Za 0) (eC (.int 1)))) (Zf)) (Zt (Zh (gP rfl rfl) rfl (zP (x:=[.str fP]) (y:=t.flat) (by simp;exact lA 1 0x3e83b0ac03c2b001 T1 hl) M)) rfl) rfl).le (λT pT=>(LF.call (F:=rec 0) (ds:=[.tup a]) (g:=Zb (e2 Zn (Za 0) (eC (.int 2))) (Zf)) rfl (ha T)).le) (by simp;exact lA 1 0xdbba05b0ac0aae605b001 T1 hw)).le (λT pT=>(LF.lst (ds:=[.tup [.str [101,110,100]]]) (g:=Zb (bY (Zb (eC (.str [101,110,100])) (Zf))) (Zf)) (Zt (gP rfl rfl) rfl) rfl).le) (by simp;exact lA 1 0xdbb9e5b00aae605b001 T1 hw);have e:[D.tup (.str fP::t.flat)]++A.map D.tup++[.tup [.str [101,110,100]]]=(headD fP t::(A++[[.str eO]])).map D.tup:=by simp
 rw[e]at h;exact BL.skip (Zh rfl rfl (vo (by decide))) (BL.take (Zh rfl rfl (N_ rfl)) (BL.ret h (Ai _)))
noncomputable abbrev xx(F:F3):S3:=aU (aG bj m_ (Za 1) (Zb (Zz F (Zb (Za 2) (Zf))) (Zf)))
theorem ZsU{F:F3}{it:gm}(hi:it.lock=Ym){W:Option D}{r:Nat}{acc:List D}{d:D}{h:List (List D)}{x:Option D}(H:oR F d h)(hp:M0<+:M)(hr:M[r]?=Ya (.lst acc))(hl:M0.length<=r)(hz:acc.length+h.length<=800000)(ds:List D):
  ∃S,dH it (bA 2) (xx F) (d::ds) [W,Ya (.ref r),x] M=dH it (bA 2) (xx F) ds [W,Ya (.ref r),Ya d] S/\M0<+:S/\S[r]?=Ya (.lst (acc++h.map D.tup)):=by
 obtain⟨S,e,p1⟩:=ZuS (o:=Za 1) (t:=Zz F (Zb (Za 2) (Zf))) (env:=[W,Ya (.ref r),Ya d]) (ys:=h.map D.tup) rfl hr (LF.call (ds:=[d]) rfl (H M)) (by simp;exact lB 1 0xdbba05b10c0c35005b10c01 T1 hz);refine⟨_,?_,WL (hp.trans p1) hl,Yw (Ye.mp (zO p1 hr)).1⟩;rw[o8,if_pos (by unfold locked;rw[hi])];simp only[bA,lK,lM,e]
theorem ZsX(IH:∀(ds:List D) (R:List (List D)) (m:Nat),Sh ds R m->R.length<=100000->2*m+2<=j->Ek (Zy j 0) ds R){it:gm}(hi:it.lock=Ym){W:Option D}{r:Nat}(hl:M0.length<=r)(H:Sh ds R m):R.length<=100000->2*m<=j->∀(rest:List D) (acc:List D) (M:Store) (x:Option D),M0<+:M->M[r]?=Ya (.lst acc)->acc.length+R.length<=700000 ->
  ∃S x',dH it (bA 2) (xx (Zy (j+1) 1)) (ds++rest) [W,Ya (.ref r),x] M=dH it (bA 2) (xx (Zy (j+1) 1)) rest [W,Ya (.ref r),x'] S/\M0<+:S/\S[r]?=Ya (.lst (acc++R.map D.tup)):=by
 have go:∀{m:Nat} {ds:List D} {R:List (List D)} {d:D} {Q:List (List D)} (ih:R.length<=100000->2*m<=j->∀(rest:List D) (acc:List D) (M:Store) (x:Option D),M0<+:M->M[r]?=Ya (.lst acc)->acc.length+R.length<=700000 ->
   ∃S x',dH it (bA 2) (xx (Zy (j+1) 1)) (ds++rest) [W,Ya (.ref r),x] M=dH it (bA 2) (xx (Zy (j+1) 1)) rest [W,Ya (.ref r),x'] S/\M0<+:S/\S[r]?=Ya (.lst (acc++R.map D.tup))),
   ((R++Q).length<=100000->2*m<=j->oR (bF 1 3 (oF (Zy j))) d Q)->(R++Q).length<=100000->2*m<=j->∀(rest:List D) (acc:List D) (M:Store) (x:Option D),M0<+:M->M[r]?=Ya (.lst acc)->acc.length+(R++Q).length<=700000 ->
   ∃S x',dH it (bA 2) (xx (Zy (j+1) 1)) (ds++[d]++rest) [W,Ya (.ref r),x] M=dH it (bA 2) (xx (Zy (j+1) 1)) rest [W,Ya (.ref r),x'] S/\M0<+:S/\S[r]?=Ya (.lst (acc++(R++Q).map D.tup)):=by
  intro m ds R d Q ih hd h1 h2 rest acc M x hp hr hz;rw[Yf]at h1 hz;obtain⟨S,x1,e1,p1,g1⟩:=ih (lB 1 0x186a05b00186a05b10c01 T1 h1) h2 ([d]++rest) acc M x hp hr (lC 1 0xaae605b10c0aae605b21c0c01 T1 hz);obtain⟨S2,e2',p2,g2⟩:=ZsU (F:=Zy (j+1) 1) (W:=W) (x:=x1) hi (hd (by rw[Yf];exact h1) h2) p1 g1 hl (by simp;exact lC 1 0xc35005b210cc0aae605b21c0c01 T1 hz) rest;exact⟨S2,Ya d,by rw[gM];exact e1.trans e2',p2,by rw[g2];simp⟩
 induction H with
 |nil n=>intro _ _ rest acc M x hp hr _;exact⟨M,x,rfl,hp,by simpa using hr⟩|row q ok p h ih=>exact go ih λ_ _=>ZuV _ ok p|whn t ok ha hb h _ _ ih=>exact go ih λh1 h2=>by simp only[Yf,Yk]at h1;exact Zv0 (WM ok Yc) (IH _ _ _ ha (lD 1 0x186a05b10186a05baaa3c2cc1cc0c01 T1 h1) (lB 1 0x121b002dc01a0c02d01 T1 h2)) (IH _ _ _ hb (lD 1 0x186a05b20186a05baaa3c2cc1cc0c01 T1 h1) (lB 1 0x121b002dc01a0c02d01 T1 h2)) (lD 1 0xaae605b21c0186a05baaa3c2cc1cc0c01 T1 h1)
 | whl t ok ha h _ ih=>exact go ih λh1 h2=>by simp only[Yf,Yk]at h1;exact Zu5 (WM ok Yc) (IH _ _ _ ha (lC 1 0x186a05b10186a05baa2c1cc0c01 T1 h1) (lB 1 0x121b002dc01a0c02d01 T1 h2)) (lC 1 0xaae605b10186a05baa2c1cc0c01 T1 h1)
theorem ZvF:∀(n:Nat) (ds:List D) (R:List (List D)) (m:Nat),Sh ds R m->R.length<=100000->2*m+2<=n->Ek (Zy n 0) ds R:=by
 intro n
 induction n using JS with
 | ind n ih=>
  intro ds R m H hw hd M
  match n,ih,hd with
  |0,_,hd=>exact(lA 1 0x6e21b002dc01 T1 hd).elim|1,_,hd=>exact(lA 1 0x6a21b002dc01 T1 hd).elim|j+2,ih,hd=>refine FL.of (env:=[Ya (.tup ds),Ym,Ym]) ?_ rfl rfl;obtain⟨S,x,e,q1,q2⟩:=ZsX (j:=j) (λds R m H hw hd=>ih j (lA 0 35326977 T1) ds R m H hw hd) (it:=⟨ds,Ym⟩) rfl (W:=Ya (.tup ds)) (M0:=M) (Yt _) H hw (lB 1 0x1002d021b1c21b002dc01 T1 hd) [] [] (M++[.lst []]) Ym (t7 _ _) (Zo M _ []) (by simp;exact lA 1 0xaae605b00186a05b001 T1 hw);rw[kO,pZ,if_pos (by rfl)]at e;refine BL.step (env':=[Ya (.tup ds),Ya (.ref M.length),Ym]) (S:=M++[.lst []]) (Zq (dz rfl rfl)) (BL.step ((qX (it:=⟨ds,Ym⟩) rfl).trans e) ?_);exact⟨M.length,S,di rfl,q1,by rw[q2];simp,Yt _⟩
theorem Zxl(H:Sh ds R 12)(hw:R.length<=100000):Ek MN ds R:=ZvF 28 ds R 12 H hw (by decide)
noncomputable def rK(tk:List (List Nat)):List (List D):=if tk=[]then[]else[(e_::tk).map D.str]
theorem ZhX(h6:tk.length<=6)(H:Sh ds R 12)(hw:R.length<=10000):oR oG (.tup [.tup (tk.map D.str),.tup ds]) (rK tk++R):=by
 intro M;have tr:=Zxl H (Yi hw (by decide))
 let P:D:=.tup [.tup (tk.map D.str),.tup ds]
 refine FL.of (env:=[Ya P,Ym]) ?_ rfl rfl;unfold Vj;have first:LE (kh (e2 cX (aC bx (Zb (e2 Zn (Za 0) (eC (.int 0))) (Zf))) (eC (.int 0))) (aV (Zb (e2 aN (bY (Zb (eC (.str [116,97,107,101])) (Zf))) (e2 Zn (Za 0) (eC (.int 0)))) (Zf))) (aV (Zf))) [Ya P,Ym] M ((rK tk).map D.tup):=by
  have hlen:e2 cX (aC bx (Zb (e2 Zn (Za 0) (eC (.int 0))) (Zf))) (eC (.int 0)) [Ya P,Ym] M= .ok (.bl (decide (tk≠[]))) M:=by
   refine Zh (a:=.int (tk.length:Int)) (M1:=M) (M2:=M) (cC (a:=.tup (tk.map D.str)) rfl ?_) rfl ?_
   .simp only[yJ,yK,yL,qT,Yu]
   .rw[jP];cases tk with
    |nil=>rfl|cons y ys=>rw[decide_eq_true (by rw[Yk];exact iN [_] [] 0 10537193 T1),decide_eq_true (λz=>nomatch z)]
  unfold rK;by_cases h0:tk=[]
  .rw[if_pos h0];obtain⟨n,S,a,b,c,_⟩:=LF.lst (g:=Zf) (env:=[Ya P,Ym]) (M:=M) (ds:=[]) rfl rfl;exact⟨n,S,by rw[B_ (M1:=M) (hlen.trans (by rw[decide_eq_false (λz=>z h0)]))];exact a,b,c⟩
  .rw[if_neg h0];obtain⟨n,S,a,b,c,_⟩:=LF.lst (g:=Zb (e2 aN (bY (Zb (eC (.str [116,97,107,101])) (Zf))) (e2 Zn (Za 0) (eC (.int 0)))) (Zf)) (env:=[Ya P,Ym]) (M:=M) (ds:=[.tup ((e_::tk).map D.str)]) (Zt (Zh (a:=.tup [.str e_]) (b:=.tup (tk.map D.str)) (gP rfl rfl) rfl (zP (x:=[.str e_]) (y:=tk.map D.str) (by simp;exact lA 1 0x3e83b0ac061b001 T1 h6) M)) rfl) rfl;exact⟨n,S,by rw[BZ (M1:=M) (hlen.trans (by rw[decide_eq_true h0]))];exact a,b,c⟩
 have hl:(rK tk).length<=1:=by unfold rK;split <;>simp
 refine BL.set first λn S p g=>?_;have h:=LE.add (env:=[Ya P,Ya (.ref n)]) (M:=S) (LE.var (i:=1) rfl g) (λT pT=>(LF.call (F:=MN) (ds:=[.tup ds]) (g:=Zb (e2 Zn (Za 0) (eC (.int 1))) (Zf)) rfl (tr T)).le) (by simp;exact lB 2 0xdbba05b10c027104b101a001 T1 hl hw);rw[←jl]at h;exact BL.ret h p
def Ob(w:D):Prop:=(∀M,tu [w] M= .ok (.str (b_ w)) M)/\(b_ w).length<=61
theorem Zun(H:cQ r):∀w∈r.iM,Ob w:=λw hw=>by
 rcases Yo.mp hw with e|e
 .rw[e];exact⟨λ_=>rfl,by have:=(Wb (zM H)).2.1;show r.h.length<=61;exact lA 1 67254898241537 T1 this⟩
 .rcases fj.mp e with e|e
  .obtain⟨x,hx,rfl⟩:=dZ.mp e;exact⟨λ_=>rfl,by have:=(H.nm x hx).le;show x.length<=61;exact lA 1 67254901387265 T1 this⟩
  .have hf:=HY H.ok.fit w e;exact⟨ZuK hf,Zo7 hf⟩
theorem WN(r:Rw):r.iM.map b_=r.words:=by unfold Rw.iM Rw.words;rw[Ys,jl,jH];have:∀l:List (List Nat),l.map (b_ ∘ D.str)=l:=λl=>(Ae λ_ _=>rfl).trans (Qs l);rw[this];rfl
theorem ZnW(tk:List (List Nat)):((e_::tk).map D.str).map b_=e_::tk:=by rw[jH];exact(Ae λ_ _=>rfl).trans (Qs _)
theorem Zl3{ws:List D}(h:∀w∈ws,Ob w)(hl:ws.length<=1000)(M:Store):Ht [.tup ws] M= .ok (.str (glue [32] (ws.map b_))) M:=by
 have lc:=sZ (h:=λw=>D.str (b_ w)) (enc:=λw=>w) (own:=1) (i:=1) (it:=bZ (Za 0)) (elt:=aC tu (Zb (Za 1) (Zf))) (env:=[Ya (.tup ws)]) (M:=M) (M1:=M) (lock:=Ym) (as:=ws) (by rw[Qq];rfl) (λn z=>nomatch z)
  (λw hw M'=>cC rfl ((h w hw).1 M')) (lA 1 0x186a05b003e83b001 T1 hl)
 have e:ws.map (λw=>D.str (b_ w))=(ws.map b_).map D.str:=by rw[jH];rfl
 rw[e]at lc;have hz:=(Nk 32 61 (ws.map b_) λw hw=>by obtain⟨v,hv,rfl⟩:=dZ.mp hw;exact(h v hv).2).1;rw[Yu]at hz;refine Rt.pure (G:=[.lst ((ws.map b_).map D.str)]) (env:=[Ya (.tup ws)]) ?_ rfl;unfold Va;exact di (u0 rfl lc (Nm (Zo _ _ _) (Yi (show _<=100000 by omega) (by decide))))
theorem ZmQ(tr:oR oG (.tup [.tup (tk.map D.str),.tup ds]) R)(hR:∀ws∈R,ws.length<=1000/\∀w∈ws,Ob w)(hl:R.length<=10000)(hg:lG [10] (R.map λws=>glue [32] (ws.map b_))<=100000)(M:Store):
  wX [.tup [.tup (tk.map D.str),.tup ds]] M= .ok (.str (glue [10] (R.map λws=>glue [32] (ws.map b_)))) M:=by
 obtain⟨n,S,e,p,g,_⟩:=tr M;obtain⟨G,rfl⟩:=p;have hi:bZ (Zz oG (Zb (Za 0) (Zf))) [Ya (.tup [.tup (tk.map D.str),.tup ds])] M= .ok ⟨R.map D.tup,Ya n⟩ (M++G):=by have:Zz oG (Zb (Za 0) (Zf)) [Ya (.tup [.tup (tk.map D.str),.tup ds])] M= .ok (.ref n) (M++G):=dJ rfl e;simp only[bZ,this,R3.bind,g]
 have lc:=sZ (h:=λws=>D.str (glue [32] (ws.map b_))) (enc:=D.tup) (own:=1) (i:=1) (elt:=Zz Ht (Zb (Za 1) (Zf))) (as:=R) hi (λk hk=>by cases hk;exact g)
  (λws hw M'=>dJ rfl (Zl3 (hR ws hw).2 (hR ws hw).1 M')) (lA 1 0x186a05b0027104b001 T1 hl)
 have e2:R.map (λws=>D.str (glue [32] (ws.map b_)))=(R.map λws=>glue [32] (ws.map b_)).map D.str:=by rw[jH];rfl
 rw[e2]at lc;refine Rt.pure (G:=G++[.lst ((R.map λws=>glue [32] (ws.map b_)).map D.str)]) (env:=[Ya (.tup [.tup (tk.map D.str),.tup ds])]) ?_ rfl;unfold Vk;rw[←gM];exact di (u0 rfl lc (Nm (Zo _ _ _) (Yi hg (by decide))))
noncomputable def iB(acc:List (List Nat)):D->List (List Nat)
 | .str x=>if x∈Zx\/x∈acc then acc else acc++[x]|_=>acc
noncomputable def gK(names acc:List (List Nat))(x:List Nat):List (List Nat):=if x∈names/\x∉acc then acc++[x]else acc
theorem Oc(x:List Nat):∀l:List (List Nat),((l.map D.str).any λy=>dh y (.str x))=decide (x∈l)
 |[]=>rfl|y::l=>by
  rw[Ys,lR,Oc x l,Td];by_cases h:y=x
  .subst h;simp
  .have h2:¬x=y:=λz=>h z.symm;simp[h,h2]
theorem Od:∀l:List (List Nat),(l.map D.str).all cJ=true
 |[]=>rfl|_::l=>Od l
theorem Oe{l:List (List Nat)}(h:M[n]?=Ya (.lst (l.map D.str))):uN (.str x) (.ref n) M= .ok (.bl (!decide (x∈l))) M:=by show(match M[n]? with|some (.lst ys)=>if cJ (.str x)&&ys.all cJ then R3.ok (D.bl (!ys.any λy=>dh y (.str x))) M else .bad|_=>.bad)=_;rw[h];simp only[Od,Oc,cJ,Q7,if_true]
theorem Zrl{l:List (List Nat)}(h:M[n]?=Ya (.lst (l.map D.str))):q8 (.str x) (.ref n) M= .ok (.bl (decide (x∈l))) M:=by rw[ZmX,h];simp only[Od,Oc,cJ,Q7,if_true]
theorem notin_words(x:List Nat)(M:Store):Bx (.str x) (.tup (Zx.map D.str)) M= .ok (.bl (!decide (x∈Zx))) M:=by show(if cJ (.str x)&&(Zx.map D.str).all cJ then R3.ok (D.bl (!(Zx.map D.str).any λy=>dh y (.str x))) M else .bad)=_;simp only[Od,Oc,cJ,Q7,if_true]
theorem El{items:List D}(h:S[n]?=Ya (.lst items)):locked ⟨items,Ya n⟩ S=true:=decide_eq_true h
noncomputable abbrev WP:S3:=(aK (bN (e1 jr (e1 (jt .int) (Za 3))) (bN (e2 Bx (Za 3) (qp)) (e2 uN (Za 3) (Za 1)))) (aU (aG bj cu (Za 1) (Zb (Za 3) (Zf)))) (aW))
theorem xF{p:Nat}(h:S[p]?=Ya o):S.set p o=S:=by
 apply xU;intro j;by_cases hj:j=p
 .subst hj;rw[Yw (Ye.mp h).1,h]
 .rw[Yp (dw hj)]
variable{acc:List (List Nat)}
theorem Zue{p:Nat}(hp:S[p]?=Ya (.lst (acc.map D.str)))(hw:mD w)(hl:acc.length<=10000)(v0 v2:Option D):
  WP [v0,Ya (.ref p),v2,Ya w] S= .nx [v0,Ya (.ref p),v2,Ya w] (S.set p (.lst ((iB acc w).map D.str))):=by
 cases hw with
 |int i=>refine(cY (M':=S) (lX (dM (op:=jr) (f:=e1 (jt .int) (Za 3)) (a:=.bl true) (M1:=S) (dM (a:=.int i) (M1:=S) rfl rfl) rfl))).trans ?_;show _=O3.nx _ (S.set p (.lst (acc.map D.str)));rw[xF hp]|str x=>
  have c1:e1 jr (e1 (jt .int) (Za 3)) [v0,Ya (.ref p),v2,Ya (.str x)] S= .ok (.bl true) S:=dM (op:=jr) (f:=e1 (jt .int) (Za 3)) (a:=.bl false) (M1:=S) (dM (a:=.str x) (M1:=S) rfl rfl) rfl;have c2:e2 Bx (Za 3) (qp) [v0,Ya (.ref p),v2,Ya (.str x)] S= .ok (.bl (!decide (x∈Zx))) S:=Zh rfl rfl (notin_words x S);by_cases h1:x∈Zx
  .refine(cY (M':=S) ((h_ c1).trans (lX (c2.trans (by rw[decide_eq_true h1];rfl))))).trans ?_;rw[show iB acc (.str x)=acc from if_pos (.inl h1),xF hp]
  .have c3:=h_ (g:=e2 uN (Za 3) (Za 1)) (c2.trans (by rw[decide_eq_false h1];rfl));by_cases h2:x∈acc
   .refine(cY (M':=S) ((h_ c1).trans (c3.trans (Zh rfl rfl ((Oe hp).trans (by rw[decide_eq_true h2];rfl)))))).trans ?_;rw[show iB acc (.str x)=acc from if_pos (.inr h2),xF hp]
   .refine(fX (M':=S) ((h_ c1).trans (c3.trans (Zh rfl rfl ((Oe hp).trans (by rw[decide_eq_false h2];rfl)))))).trans ?_;refine(nF rfl hp rfl hp (by rw[Yu];exact rY hl (by decide))).trans ?_;rw[show iB acc (.str x)=acc++[x]from if_neg (λz=>z.elim h1 h2),jl];rfl
theorem ZqU(acc:List (List Nat))(w:D):(iB acc w).length<=acc.length+1:=by
 cases w with
 |str x=>show(if _ then acc else acc++[x]).length<=_;split <;>simp|_=>exact v8 _
theorem ZiC:∀(ws:List D) (acc:List (List Nat)),(ws.foldl iB acc).length<=acc.length+ws.length
 |[],acc=>Yt _|w::ws,acc=>by have h1:=ZqU acc w;have h2:=ZiC ws (iB acc w);rw[jG,Yk];exact lD 2 0xa2c3c00a3c10121c001 T1 h2 h1
theorem Zpy{p:Nat}{it:gm}(hi:it.lock=Ym){v0 v2:Option D}:∀(ws:List D) (acc:List (List Nat)) (S:Store) (x:Option D),S[p]?=Ya (.lst (acc.map D.str))->(∀w∈ws,mD w)->acc.length+ws.length<=10000 ->
  ∃y,dH it (bA 3) WP ws [v0,Ya (.ref p),v2,x] S= .nx [v0,Ya (.ref p),v2,y] (S.set p (.lst ((ws.foldl iB acc).map D.str)))
 |[],acc,S,x,hp,_,_=>⟨x,by show dH _ _ _ [] _ _=O3.nx _ (S.set p (.lst (acc.map D.str)));rw[pZ,if_pos (by unfold locked;rw[hi]),xF hp]⟩|w::ws,acc,S,x,hp,hw,hl=>by rw[Yk]at hl;have hlt:=(Ye.mp hp).1;obtain⟨y,hy⟩:=Zpy hi ws (iB acc w) (S.set p (.lst ((iB acc w).map D.str))) (Ya w) (Yw hlt) (λv hv=>hw v (Yd _ hv)) (by have:=ZqU acc w;exact lC 2 0x27104b20c027104ba2c1c01a1c001 T1 this hl);refine⟨y,?_⟩;rw[o8,if_pos (by unfold locked;rw[hi])];simp only[bA,lK,lM];rw[Zue hp (hw w Yc) (lB 1 0x27104b0027104ba1c0c01 T1 hl)];simp only;rw[hy,vL];rfl
noncomputable abbrev nrB:S3:=lz (bZ (Za 2)) (bA 3) WP
theorem ZoA{p n:Nat}{items:List D}(hpn:p≠n){v0:Option D}:∀(R:List (List D)) (acc:List (List Nat)) (S:Store) (x x3:Option D),S[p]?=Ya (.lst (acc.map D.str))->S[n]?=Ya (.lst items)->(∀ws∈R,∀w∈ws,mD w)->acc.length+R.flatten.length<=10000 ->
  ∃y y3,dH ⟨items,Ya n⟩ (bA 2) nrB (R.map D.tup) [v0,Ya (.ref p),x,x3] S= .nx [v0,Ya (.ref p),y,y3] (S.set p (.lst ((R.flatten.foldl iB acc).map D.str)))
 |[],acc,S,x,x3,hp,hn,_,_=>⟨x,x3,by show dH _ _ _ [] _ _=O3.nx _ (S.set p (.lst (acc.map D.str)));rw[pZ,if_pos (El hn),xF hp]⟩|ws::R,acc,S,x,x3,hp,hn,hw,hl=>by rw[kJ,Yf]at hl;have hlt:=(Ye.mp hp).1;obtain⟨y3,h1⟩:=Zpy (it:=⟨ws,Ym⟩) rfl (v0:=v0) (v2:=Ya (.tup ws)) ws acc S x3 hp (hw ws Yc) (lC 1 0x27104b10c027104b21c0c01 T1 hl);obtain⟨z,z3,h2⟩:=ZoA hpn (v0:=v0) R (ws.foldl iB acc) (S.set p (.lst ((ws.foldl iB acc).map D.str))) (Ya (.tup ws)) y3 (Yw hlt) ((Yp hpn).trans hn) (λv hv=>hw v (Yd _ hv)) (by have:=ZiC ws acc;exact lD 2 0x27104b30c027104b32c1c0121c001 T1 this hl);refine⟨z,z3,?_⟩;rw[Ys,o8,if_pos (El hn)];simp only[bA,lK,lM];rw[show nrB [v0,Ya (.ref p),Ya (.tup ws),x3] S=_ from(qX (it:=⟨ws,Ym⟩) rfl).trans h1];simp only;rw[h2,vL,kJ,Yes]
theorem ZiH(tr:oR oG (.tup [.tup (tk.map D.str),.tup ds]) R)(hR:∀ws∈R,∀w∈ws,mD w)(hl:tk.length+R.flatten.length<=10000)(M:Store):
  zr [.tup [.tup (tk.map D.str),.tup ds]] M= .ok (.tup ((R.flatten.foldl iB tk).map D.str)) M:=by
 let P:D:=.tup [.tup (tk.map D.str),.tup ds]
 let M1:=M++[MO.lst (tk.map D.str)]
 obtain⟨n,S,e,p,g,hn⟩:=tr M1;have l1:M1.length=M.length+1:=by simp[M1]
 have hp:S[M.length]?=Ya (.lst (tk.map D.str)):=zO p (Zo M _ []);have hi:bZ (Zz oG (Zb (Za 0) (Zf))) [Ya P,Ya (.ref M.length),Ym,Ym] M1= .ok ⟨R.map D.tup,Ya n⟩ S:=by have:Zz oG (Zb (Za 0) (Zf)) [Ya P,Ya (.ref M.length),Ym,Ym] M1= .ok (.ref n) S:=dJ rfl e;simp only[bZ,this,R3.bind,g]
 obtain⟨y,y3,h⟩:=ZoA (p:=M.length) (n:=n) (items:=R.map D.tup) (λz=>lC 3 0x61201a0c2311031 T1 z l1 hn) (v0:=Ya P) R tk S Ym Ym hp g hR hl;obtain⟨G,hG⟩:M<+:S.set M.length (.lst ((R.flatten.foldl iB tk).map D.str)):=WL ((t7 M _).trans p) (Yt _);have hlt:=(Ye.mp hp).1;refine Rt.pure (G:=G) (env:=[Ya P,Ym,Ym,Ym]) ?_ (Ed _);unfold Vl;rw[hG];refine(Zi (Zq (d:=.ref M.length) (M':=M1) (cC (a:=.tup (tk.map D.str)) rfl rfl))).trans ((Zi ((qX hi).trans h)).trans ?_);exact di (cC rfl (nZ (Yw hlt)))
noncomputable abbrev WQ:S3:=(aK (bN (e2 q8 (Za 4) (Za 1)) (e2 uN (Za 4) (Za 2))) (aU (aG bj cu (Za 2) (Zb (Za 4) (Zf)))) (aW))
section
variable {names:List (List Nat)} {nr p:Nat}
theorem ZtC(hn:S[nr]?=Ya (.lst (names.map D.str)))(hp:S[p]?=Ya (.lst (acc.map D.str)))(hl:acc.length<=10000)(v0 v3:Option D):
  WQ [v0,Ya (.ref nr),Ya (.ref p),v3,Ya (.str x)] S= .nx [v0,Ya (.ref nr),Ya (.ref p),v3,Ya (.str x)] (S.set p (.lst ((gK names acc x).map D.str))):=by
 have c1:e2 q8 (Za 4) (Za 1) [v0,Ya (.ref nr),Ya (.ref p),v3,Ya (.str x)] S= .ok (.bl (decide (x∈names))) S:=Zh rfl rfl (Zrl hn);by_cases h1:x∈names
 .have c2:=h_ (g:=e2 uN (Za 4) (Za 2)) (c1.trans (by rw[decide_eq_true h1]));by_cases h2:x∈acc
  .refine(cY (M':=S) (c2.trans (Zh rfl rfl ((Oe hp).trans (by rw[decide_eq_true h2];rfl))))).trans ?_;rw[show gK names acc x=acc from if_neg (λz=>z.2 h2),xF hp]
  .refine(fX (M':=S) (c2.trans (Zh rfl rfl ((Oe hp).trans (by rw[decide_eq_false h2];rfl))))).trans ?_;refine(nF rfl hp rfl hp (by rw[Yu];exact rY hl (by decide))).trans ?_;rw[show gK names acc x=acc++[x]from if_pos ⟨h1,h2⟩,jl];rfl
 .refine(cY (M':=S) (lX (c1.trans (by rw[decide_eq_false h1])))).trans ?_;rw[show gK names acc x=acc from if_neg (λz=>h1 z.1),xF hp]
theorem ZqD(acc:List (List Nat))(x:List Nat):(gK names acc x).length<=acc.length+1:=by unfold gK;split <;>simp
theorem ZiK:∀(ws:List (List Nat)) (acc:List (List Nat)),(ws.foldl (gK names) acc).length<=acc.length+ws.length
 |[],acc=>Yt _|w::ws,acc=>by have h1:=ZqD (names:=names) acc w;have h2:=ZiK ws (gK names acc w);rw[jG,Yk];exact lD 2 0xa2c3c00a3c10121c001 T1 h2 h1
theorem Zpz{q:Nat}{items:List D}(hq:p≠q)(hpr:p≠nr){v0 v3:Option D}:∀(ws:List (List Nat)) (acc:List (List Nat)) (S:Store) (x:Option D),S[nr]?=Ya (.lst (names.map D.str))->S[p]?=Ya (.lst (acc.map D.str))->S[q]?=Ya (.lst items)->acc.length+ws.length<=10000 ->
  ∃y,dH ⟨items,Ya q⟩ (bA 4) WQ (ws.map D.str) [v0,Ya (.ref nr),Ya (.ref p),v3,x] S= .nx [v0,Ya (.ref nr),Ya (.ref p),v3,y] (S.set p (.lst ((ws.foldl (gK names) acc).map D.str)))
 |[],acc,S,x,_,hp,hi,_=>⟨x,by show dH _ _ _ [] _ _=O3.nx _ (S.set p (.lst (acc.map D.str)));rw[pZ,if_pos (El hi),xF hp]⟩|w::ws,acc,S,x,hn,hp,hi,hl=>by rw[Yk]at hl;have hlt:=(Ye.mp hp).1;obtain⟨y,hy⟩:=Zpz hq hpr ws (gK names acc w) (S.set p (.lst ((gK names acc w).map D.str))) (Ya (.str w)) ((Yp hpr).trans hn) (Yw hlt) ((Yp hq).trans hi) (by have:=ZqD (names:=names) acc w;exact lC 2 0x27104b20c027104ba2c1c01a1c001 T1 this hl);refine⟨y,?_⟩;rw[Ys,o8,if_pos (El hi)];simp only[bA,lK,lM];rw[ZtC hn hp (lB 1 0x27104b0027104ba1c0c01 T1 hl)];simp only;rw[hy,vL];rfl
noncomputable abbrev nlB:S3:=lz (bZ (aG fM p7 (Za 3) (Zb (eC (.str [32])) (Zf)))) (bA 4) WQ
theorem ZpB{q:Nat}{items:List D}(hq:p≠q)(hpr:p≠nr){v0:Option D}:∀(RW:List (List (List Nat))) (acc:List (List Nat)) (S:Store) (x x4:Option D),S[nr]?=Ya (.lst (names.map D.str))->S[p]?=Ya (.lst (acc.map D.str))->S[q]?=Ya (.lst items)->(∀ws∈RW,zJ ws)->acc.length+RW.flatten.length<=10000 ->
  ∃(S':Store) (y y4:Option D),dH ⟨items,Ya q⟩ (bA 3) nlB (RW.map λws=>D.str (glue [32] ws)) [v0,Ya (.ref nr),Ya (.ref p),x,x4] S= .nx [v0,Ya (.ref nr),Ya (.ref p),y,y4] S'/\S'[p]?=Ya (.lst ((RW.flatten.foldl (gK names) acc).map D.str))/\(∀M0:Store,M0.length<=p->M0<+:S->M0<+:S')
 |[],acc,S,x,x4,_,hp,hi,_,_=>⟨S,x,x4,by show dH _ _ _ [] _ _=_;rw[pZ,if_pos (El hi)],hp,λ_ _ h=>h⟩|ws::RW,acc,S,x,x4,hn,hp,hi,hw,hl=>by
  rw[kJ,Yf]at hl;have hlt:=(Ye.mp hp).1;have ok:=hw ws Yc
  let S1:=S++[MO.lst (ws.map D.str)]
  have hsp:aG fM p7 (Za 3) (Zb (eC (.str [32])) (Zf)) [v0,Ya (.ref nr),Ya (.ref p),Ya (.str (glue [32] ws)),x4] S= .ok (.ref S.length) S1:=u0 rfl rfl ((V7 (Yi ok.le (by decide))).trans (by rw[VG 32 ws ok.ne λt ht=>(ok.fr t ht).1]));have hit:bZ (aG fM p7 (Za 3) (Zb (eC (.str [32])) (Zf))) [v0,Ya (.ref nr),Ya (.ref p),Ya (.str (glue [32] ws)),x4] S= .ok ⟨ws.map D.str,Ya S.length⟩ S1:=by simp only[bZ,hsp,R3.bind,S1,Zo]
  obtain⟨y4,h1⟩:=Zpz (names:=names) (nr:=nr) (p:=p) (q:=S.length) (items:=ws.map D.str) (λz=>lB 2 26039357489 T1 z hlt) hpr (v0:=v0) (v3:=Ya (.str (glue [32] ws))) ws acc S1 x4 (bL hn _) (bL hp _) (Zo _ _ _) (lC 1 0x27104b10c027104b21c0c01 T1 hl);have hlt1:p<S1.length:=Y8 hlt (len_app S _);obtain⟨S',z,z4,h2,g2,pre⟩:=ZpB hq hpr (v0:=v0) RW (ws.foldl (gK names) acc) (S1.set p (.lst ((ws.foldl (gK names) acc).map D.str))) (Ya (.str (glue [32] ws))) y4 ((Yp hpr).trans (bL hn _)) (Yw hlt1) ((Yp hq).trans (bL hi _)) (λv hv=>hw v (Yd _ hv)) (by have:=ZiK (names:=names) ws acc;exact lD 2 0x27104b30c027104b32c1c0121c001 T1 this hl);refine⟨S',z,z4,?_,by rw[g2,kJ,Yes],λM0 l h=>pre M0 l (WL (h.trans (t7 _ _)) l)⟩;rw[Ys,o8,if_pos (El hi)];simp only[bA,lK,lM];rw[show nlB [v0,Ya (.ref nr),Ya (.ref p),Ya (.str (glue [32] ws)),x4] S=_ from(qX hit).trans h1];simp only;rw[h2]
theorem named_eq{rl:Nat}{RW:List (List (List Nat))}(hr:M[rl]?=Ya (.lst (RW.map λws=>D.str (glue [32] ws))))(hn:M[nr]?=Ya (.lst (names.map D.str)))(hw:∀ws∈RW,zJ ws)(hl:RW.flatten.length<=10000):
  Hy [.ref rl,.ref nr] M= .ok (.tup ((RW.flatten.foldl (gK names) []).map D.str)) M:=by
 have l1:=(Ye.mp hr).1;have l2:=(Ye.mp hn).1
 let M1:=M++[MO.lst []]
 have hi:bZ (Za 0) [Ya (.ref rl),Ya (.ref nr),Ya (.ref M.length),Ym,Ym] M1= .ok ⟨RW.map λws=>D.str (glue [32] ws),Ya rl⟩ M1:=by show(R3.ok (D.ref rl) M1).bind _=_;simp only[R3.bind,M1,bL hr [MO.lst []]]
 obtain⟨S',y,y4,h,g,pre⟩:=ZpB (names:=names) (nr:=nr) (p:=M.length) (q:=rl) (items:=RW.map λws=>D.str (glue [32] ws)) (λz=>lB 2 25787699233 T1 z l1) (λz=>lB 2 25787699233 T1 z l2) (v0:=Ya (.ref rl)) RW [] M1 Ym Ym (bL hn _) (Zo M _ []) (bL hr _) hw (by simpa using hl);obtain⟨G,hG⟩:=pre M (Yt _) (t7 M _);refine Rt.pure (G:=G) (env:=[Ya (.ref rl),Ya (.ref nr),Ym,Ym,Ym]) ?_ (Ed _);unfold Vu;rw[hG];exact(Zi (Zq (d:=.ref M.length) (M':=M1) (dz rfl rfl))).trans ((Zi ((qX hi).trans h)).trans (di (cC rfl (nZ g))))
end
theorem Zxk(h:∃x,w= .str x/\x∈Zx/\x∉jz.nms\/(∃x,w= .str x/\fZ x)\/∃i,w= .int i/\gF i∉jz.nms):iB acc w=gK jz.nms acc (b_ w):=by
 rcases h with⟨x,h|h|h⟩
 .obtain⟨rfl,h1,h2⟩:=h;rw[show iB acc (.str x)=acc from if_pos (.inl h1)];exact(if_neg λz=>h2 z.1).symm
 .obtain⟨y,rfl,ok⟩:=h;show(if y∈Zx\/y∈acc then acc else acc++[y])=if y∈jz.nms/\y∉acc then acc++[y]else acc;by_cases h2:y∈acc
  .rw[if_pos (.inr h2),if_neg λz=>z.2 h2]
  .rw[if_neg λz=>z.elim ok.own h2,if_pos ⟨ok.inn,h2⟩]
 .obtain⟨i,rfl,h2⟩:=h;exact(if_neg λz=>h2 z.1).symm
theorem Zj8:∀(ws:List D) (acc:List (List Nat)),(∀w∈ws,∃x,w= .str x/\x∈Zx/\x∉jz.nms\/(∃x,w= .str x/\fZ x)\/∃i,w= .int i/\gF i∉jz.nms)->ws.foldl iB acc=(ws.map b_).foldl (gK jz.nms) acc
 |[],_,_=>rfl|w::ws,acc,h=>by rw[jG,Ys,jG,Zxk (h w Yc)];exact Zj8 ws _ λv hv=>h v (Yd _ hv)
theorem Zq6(hN:∀x∈jz.nms,fZ x)(H:cQ r):∀w∈r.iM,∃x,w= .str x/\x∈Zx/\x∉jz.nms\/(∃x,w= .str x/\fZ x)\/∃i,w= .int i/\gF i∉jz.nms:=λw hw=>by
 rcases Yo.mp hw with e|e
 .refine⟨r.h,.inl ⟨e,?_,?_⟩⟩
  .rcases Ie (zM H)with q|q|q|q|q|q|q<;>(rw[q];decide)
  .intro z;have:=(hN _ z).own;apply this;rcases Ie (zM H)with q|q|q|q|q|q|q<;>(rw[q];decide)
 .rcases fj.mp e with e|e
  .obtain⟨x,hx,rfl⟩:=dZ.mp e;exact⟨x,.inr (.inl ⟨x,rfl,H.nm x hx⟩)⟩
  .have hf:=HY H.ok.fit w e;cases hf with
   |int i hi=>refine⟨[],.inr (.inr ⟨i,rfl,λz=>?_⟩)⟩;obtain⟨c,q,hc⟩:=V1 i;have h1:=((hN _ z).low c (by rw[hc];exact Yc)).1;have h2:=V0 (i:=i) (c:=c) (by rw[hc];exact Yc);exact lA 2 0x60612b01392b001 T1 h2 h1|eG x hx=>exact⟨x,.inr (.inl ⟨x,rfl,hx⟩)⟩|op x hx=>
    have hm:x∈Zx:=by rcases Znl hx with q|q|q|q<;>(rw[q];decide)
    exact⟨x,.inl ⟨rfl,hm,λz=>(hN _ z).own hm⟩⟩
theorem ZrA{names:List (List Nat)}:∀(xs acc:List (List Nat)),(∀x∈xs,x∈names)->(acc++xs).Nodup->xs.foldl (gK names) acc=acc++xs
 |[],acc,_,_=>(kO _).symm|x::xs,acc,h,nd=>by have hx:x∉acc:=λhm=>(Ag.mp nd).2.2 x hm x Yc rfl;rw[jG,show gK names acc x=acc++[x]from if_pos ⟨h x Yc,hx⟩,ZrA xs (acc++[x]) (λy hy=>h y (Yd _ hy)) (by rw[gM];exact nd),gM];rfl
theorem Zpg:∀(xs acc:List (List Nat)),(∀x∈xs,x∈acc)->(xs.map D.str).foldl iB acc=acc
 |[],_,_=>rfl|x::xs,acc,h=>by rw[Ys,jG,show iB acc (.str x)=acc from if_pos (.inr (h x Yc))];exact Zpg xs acc λy hy=>h y (Yd _ hy)
theorem WR{names:List (List Nat)}:∀(ws acc:List (List Nat)),acc.Nodup->(∀x∈acc,x∈names)->(ws.foldl (gK names) acc).Nodup/\∀x∈ws.foldl (gK names) acc,x∈names
 |[],acc,h1,h2=>⟨h1,h2⟩|w::ws,acc,h1,h2=>by
  rw[jG];unfold gK;by_cases h:w∈names/\w∉acc
  .rw[if_pos h];refine WR ws _ ?_ λx hx=>?_
   .rw[Ag];exact⟨h1,by simp,λa ha b hb=>by rw[Yy.mp hb];exactλz=>h.2 (z▸ha)⟩
   .rcases fj.mp hx with q|q
    .exact h2 x q
    .rw[Yy.mp q];exact h.1
  .rw[if_neg h];exact WR ws acc h1 h2
theorem ZrJ:∀(l m:List (List Nat)),l.Nodup->(∀x∈l,x∈m)->l.length<=m.length
 |[],_,_,_=>fC _|a::l,m,nd,h=>by have ha:=h a Yc;have hn:=iR.mp nd;have:=ZrJ l (m.erase a) hn.2 λx hx=>(List.mem_erase_of_ne (λ(e:x=a)=>hn.1 (e▸hx))).mpr (h x (Yd _ hx));rw[List.length_erase_of_mem ha]at this;have:0<m.length:=List.length_pos_of_mem ha;rw[Yk];omega
theorem Zqk(h6:tk.length<=6)(nm:∀x∈tk,fZ x):zJ (e_::tk)/\(glue [32] (e_::tk)).length<=63/\lG [32] (e_::tk)<=63:=by
 have hw:∀w∈e_::tk,w.length<=8/\∀c∈w,97<=c:=λw hw=>by
  rcases Yo.mp hw with e|e
  .rw[e];decide
  .exact⟨(nm w e).le,λc hc=>((nm w e).low c hc).1⟩
 have hl:=Nk 32 8 (e_::tk) λw h=>(hw w h).1;have e7:(e_::tk).length=tk.length+1:=rfl;rw[e7]at hl;refine⟨⟨(λz=>nomatch z),λw h=>⟨λz=>by have:=(hw w h).2 _ z;exact lN [] 1 6735236508417 rfl this,λz=>by have:=(hw w h).2 _ z;exact lN [] 1 455725886209 rfl this⟩,λz=>?_,by omega⟩,by omega,by omega⟩;cases tk with
 |nil=>cases z|cons y ys=>rw[tK]at z;cases(Qg.mp z).1
theorem Zq1{a b:List Nat}:fU (.str a) (.str b) M= .ok (.bl (!decide (a=b))) M:=by simp only[fU,wC]
theorem Zpn(s:Nat):∀T:List (List Nat),(glue [s] T).length<=gl T
 |[]=>Yt _|[t]=>by show t.length<=_;simp[gl]|t::u::T=>by have:=Zpn s (u::T);rw[tK,Yf,Yf];show _<=((t::u::T).map λt=>t.length+1).sum;rw[Ys,List.sum_cons];have e:gl (u::T)=((u::T).map λt=>t.length+1).sum:=rfl;simp only[jj];exact lD 2 0x1a3cc2ac3c002011021 T1 e this
theorem ZmG(s:Nat):∀ws:List (List Nat),ws.length<=(glue [s] ws).length+1
 |[]=>fC _|[t]=>Ax _ _|t::u::ws=>by have:=ZmG s (u::ws);rw[tK,Yf,Yf,jj,Yk];exact lC 1 0xa1ac2cca0c0a1c001 T1 this
theorem ZhQ:∀RW:List (List (List Nat)),RW.flatten.length<=gl (RW.map (glue [32]))
 |[]=>Yt _|ws::RW=>by
  have h1:=ZmG 32 ws;have h2:=ZhQ RW;have e:gl ((ws::RW).map (glue [32]))=(glue [32] ws).length+1+gl (RW.map (glue [32])):=by simp[gl]
  rw[kJ,Yf,e];exact lD 2 0x1a3cc02c0a3c2011001 T1 h2 h1
noncomputable abbrev zQ(tk:List (List Nat))(rs:List Rw):List (List (List Nat)):=(if tk=[]then[]else[e_::tk])++rs.map Rw.words
noncomputable abbrev tO(tk:List (List Nat))(rs:List Rw):List (List D):=rK tk++rs.map Rw.iM
theorem d_w(tk:List (List Nat))(rs:List Rw):(tO tk rs).map (λws=>ws.map b_)=zQ tk rs:=by
 unfold tO zQ rK;rw[jl,jH];have e:rs.map ((λws=>ws.map b_) ∘ Rw.iM)=rs.map Rw.words:=Ae λr _=>WN r;rw[e];by_cases h:tk=[]
 .rw[if_pos h,if_pos h];rfl
 .rw[if_neg h,if_neg h,Ys,ZnW];rfl
theorem ZvA(tk:List (List Nat))(rs:List Rw):(tO tk rs).flatten.map b_=(zQ tk rs).flatten:=by rw[Ylv,d_w]
theorem ZvZ(h:x∈Zx):iB acc (.str x)=acc:=if_pos (.inl h)
theorem ZwG(h:x∉names):gK names acc x=acc:=if_neg λz=>h z.1
theorem ZsK(hN:∀x∈jz.nms,fZ x)(nG:∀r∈rs,cQ r)(nd:tk.Nodup)(Og:∀x∈tk,x∈jz.nms):(tO tk rs).flatten.foldl iB tk=(zQ tk rs).flatten.foldl (gK jz.nms) []:=by
 have rest:∀acc,(rs.map Rw.iM).flatten.foldl iB acc=(rs.map Rw.words).flatten.foldl (gK jz.nms) acc:=λacc=>by rw[Zj8 _ acc λw hw=>by obtain⟨l,hl,hw⟩:=Ql.mp hw;obtain⟨r,hr,rfl⟩:=dZ.mp hl;exact Zq6 hN (nG r hr) w hw];rw[Ylv,jH,show rs.map (List.map b_ ∘ Rw.iM)=rs.map Rw.words from Ae λr _=>WN r]
 unfold tO zQ rK;by_cases h:tk=[]
 .rw[if_pos h,if_pos h,jk,jk,h];exact rest []
 .rw[if_neg h,if_neg h,Yj3,Yj3,Yes,Yes];have hT:e_∈Zx:=by decide
  have e1:[(e_::tk).map D.str].flatten.foldl iB tk=tk:=by rw[Z_,Ys,jG,ZvZ hT];exact Zpg tk tk λ_ h=>h
  have e2:[e_::tk].flatten.foldl (gK jz.nms) []=tk:=by rw[Z_,jG,ZwG (λz=>(hN _ z).own hT)];exact ZrA tk [] Og nd
  rw[e1,e2];exact rest tk
omit [jz]in
theorem law_holds:∀ns:List Int,ns.length<=63->∃M',Zpb [.bD (ns.map D.int)] []= .ok (.bl true) M':=by
 intro ns hns;refine Rt.law (env:=[Ya (.bD (ns.map D.int)),Ym,Ym,Ym,Ym,Ym,Ym,Ym]) ?_;unfold Vv
 letI i0:jz:=⟨[]⟩
 let M0:Store:=[.lst (ns.map D.int)]
 let M1:Store:=[.lst (ns.map D.int),.lst [.ref 0,.int 0]]
 have AbO:cutD (ns.map D.int) Ym (Ya ((400:Nat):Int))=ns.map D.int:=Zt9 _ _ (by rw[Yu];exact lA 1 7040928933130241 T1 hns);have sl:∀{a1 a2 a3 a4 a5 a6 a7:Option D} (S:Store),eU (Za 0) (fV) (dG (eC (.int 400))) [Ya (.bD (ns.map D.int)),a1,a2,a3,a4,a5,a6,a7] S= .ok (.ref S.length) (S++[.lst (ns.map D.int)]):=λS=>by show alloc (.lst (cutD (ns.map D.int) Ym (Ya ((400:Nat):Int)))) S=_;rw[AbO];rfl
 refine Rt.step (Zq (d:=.ref 1) (M':=M1) ((dz (M':=M0) (ds:=[.ref 0,.int 0]) (Zt (sl []) rfl) rfl).trans rfl)) ?_;have D0:fc ns 0 1 0 M1:=⟨rfl,rfl,by decide⟩;obtain⟨S2,nr,names,hnm,gnm,AbP,n12,Jd,nnd,D2,NZ⟩:=ZrL D0 (by decide)
 letI i1:jz:=⟨names⟩
 have WT:∀x∈names,fZ x:=λx hx=>⟨(Jd x hx).pos,(Jd x hx).le,(Jd x hx).own,(Jd x hx).low,hx⟩;have lM1:M1.length=2:=rfl;have Oh:nr≠1:=(λz=>lB 3 0x6010121b131a021 T1 z lM1 AbP);refine Rt.step (Zq (dJ rfl hnm)) ?_;obtain⟨S3,tk,htk,t6,WW,Og,WX⟩:=Zrq D2 (by decide) gnm Oh n12 nnd;have tok:∀x∈tk,fZ x:=λx hx=>WT x (Og x hx);have X_:=WX.kp.get gnm Oh;refine Rt.step (Zq (qY rfl rfl htk)) ?_
 let vf:=S3++[MO.lst (ns.map D.int)]
 obtain⟨S4,n4,rs,ds,NT,hpr,g4,gR,D4,kp4,nG,hrun,rl,rgl,dl,hat⟩:=Zs3 (M:=vf) (many:=ns.length) (WX.dk.app _) (bL X_ _) Oh n12 WT (lA 1 7040928933130241 T1 hns) (by decide)
 let Im:=vf.length
 have l2:2<=vf.length:=by
  have a:=NZ.len;have b:=WX.kp.len;have c:vf.length=S3.length+1:=by simp[vf]
  exact lD 4 0x21b021b33123011201a1c031 T1 c b a lM1
 have AbQ:S4[nr]?=Ya (.lst (names.map D.str)):=kp4.get (bL X_ _) Oh;refine Rt.step (env':=[Ya (.bD (ns.map D.int)),Ya (.ref 1),Ya (.ref nr),Ya (.tup (tk.map D.str)),Ya (.ref Im),Ya (.tup ds),Ym,Ym]) (M':=S4) ?_ ?_
 .unfold qZ;rw[GR (M1:=S3) (M2:=S3) (M3:=vf) (M4:=vf) rfl rfl ((cC (sl S3) (m5 (Zo S3 _ []))).trans (by rw[Yu])) rfl hpr];simp only[g4];rfl
 let RW:List (List (List Nat)):=zQ tk rs
 have Pk:=Zqk t6 tok;have IW:gl (RW.map (glue [32]))<=3600:=by
  have e2:gl ((rs.map Rw.words).map (glue [32]))=gl (cg rs):=by rw[jH];rfl
  have app:∀a b:List (List Nat),gl (a++b)=gl a+gl b:=λa b=>by simp[gl]
  show gl (((if tk=[]then[]else[e_::tk])++rs.map Rw.words).map (glue [32]))<=3600;rw[jl,app,e2];split
  .show 0+_<=3600;exact lA 1 0xe103b0ec0db53b001 T1 rgl
  .show((glue [32] (e_::tk)).length+1+0)+_<=3600;exact lB 2 0xe103b1ea0ccc0db53b1013f2b001 T1 Pk.2.1 rgl
 have XR:∀ws∈RW,zJ ws:=λws hw=>by
  rcases fj.mp hw with e|e
  .split at e
   .cases e
   .rw[Yy.mp e];exact Pk.1
  .obtain⟨r,hr,rfl⟩:=dZ.mp e;exact ZmM (nG r hr)
 have XH:(rs.map Rw.words).map (λws=>D.str (glue [32] ws))=(cg rs).map D.str:=by rw[jH,jH];rfl
 have s5:∃(S5:Store) (Em:Nat),aK (e2 fU (Za 3) (bY (Zf))) (aA 4 (e2 aN (aV (Zb (aG fM wV (eC (.str [32])) (Zb (e2 aN (bY (Zb (eC (.str [116,97,107,101])) (Zf))) (Za 3)) (Zf))) (Zf))) (Za 4))) (aW) [Ya (.bD (ns.map D.int)),Ya (.ref 1),Ya (.ref nr),Ya (.tup (tk.map D.str)),Ya (.ref Im),Ya (.tup ds),Ym,Ym] S4= .nx [Ya (.bD (ns.map D.int)),Ya (.ref 1),Ya (.ref nr),Ya (.tup (tk.map D.str)),Ya (.ref Em),Ya (.tup ds),Ym,Ym] S5/\S5[Em]?=Ya (.lst (RW.map λws=>D.str (glue [32] ws)))/\S4<+:S5:=by
  have hp:(tk.map D.str).all (dF DEEP)=true:=iw.mpr λx hx=>by obtain⟨y,_,rfl⟩:=dZ.mp hx;rfl
  have hne:e2 fU (Za 3) (bY (Zf)) [Ya (.bD (ns.map D.int)),Ya (.ref 1),Ya (.ref nr),Ya (.tup (tk.map D.str)),Ya (.ref Im),Ya (.tup ds),Ym,Ym] S4= .ok (.bl (decide (tk≠[]))) S4:=by refine Zh rfl (gP rfl rfl) ?_;simp only[fU,Gu,hp];cases tk<;>rfl
  by_cases h0:tk=[]
  .have WY:RW=rs.map Rw.words:=by show(if tk=[]then[]else[e_::tk])++_=_;rw[if_pos h0];rfl
   rw[decide_eq_false (λz=>z h0)]at hne;exact⟨S4,Im,cY hne,by rw[WY,XH];exact gR,Ai _⟩
  .have WY:RW=(e_::tk)::rs.map Rw.words:=by show(if tk=[]then[]else[e_::tk])++_=_;rw[if_neg h0];rfl
   rw[decide_eq_true h0]at hne
   let T:=glue [32] (e_::tk)
   let S5:=S4++[MO.lst [.str T]]++[MO.lst ([.str T]++(cg rs).map D.str)]
   have j1:aG fM wV (eC (.str [32])) (Zb (e2 aN (bY (Zb (eC (.str [116,97,107,101])) (Zf))) (Za 3)) (Zf)) [Ya (.bD (ns.map D.int)),Ya (.ref 1),Ya (.ref nr),Ya (.tup (tk.map D.str)),Ya (.ref Im),Ya (.tup ds),Ym,Ym] S4= .ok (.str T) S4:=by refine Ef rfl rfl (Zt (Zh (a:=.tup [.str e_]) (gP rfl rfl) rfl (d:=.tup ((e_::tk).map D.str)) ?_) rfl) (Zqj (Yi Pk.2.2 (by decide)));rw[Th,if_pos (by simp;exact lA 1 0xf42405b0ac061b001 T1 t6)];rfl
   refine⟨S5,(S4++[MO.lst [.str T]]).length,(fX hne).trans (Zq (Zh (dz (Zt j1 rfl) rfl) rfl (Ia (Zo _ _ []) (bL gR _) (by simp;exact lA 1 0xdbba05b0ac01a83b001 T1 rl)))),?_,?_⟩
   .rw[WY,Ys,XH];exact Zo _ _ []
   .exact(t7 _ _).trans (t7 _ _)
 obtain⟨S5,Em,h5,g5,p5⟩:=s5;refine Rt.step h5 ?_;have gn5:=zO p5 AbQ
 let P:D:=.tup [.tup (tk.map D.str),.tup ds]
 refine Rt.step (Zq (d:=P) (M':=S5) (gP rfl rfl)) ?_;have sh:=ZvO nG hrun;have same:∀(X:List (List Nat)) (S:Store),X.length<=1000->zu [.tup (X.map D.str),.tup (X.map D.str)] S= .ok (.bl true) S:=λX S hX=>Zm3 30 _ S (vm (n:=29) (by rw[Yu];exact hX) λy hy=>by obtain⟨z,_,rfl⟩:=dZ.mp hy;exact WD _ _);have t0:oR oG (.tup [.tup (([]:List (List Nat)).map D.str),.tup []]) []:=ZhX (tk:=[]) (ds:=[]) (R:=[]) (by decide) (Sh.nil 12) (by decide);have e0:∀S:Store,wX [.tup [.tup [],.tup []]] S= .ok (.str []) S:=λS=>ZmQ t0 (λ_ h=>nomatch h) (by decide) (by decide) S;have n0:∀S:Store,zr [.tup [.tup [],.tup []]] S= .ok (.tup []) S:=λS=>ZiH t0 (λ_ h=>nomatch h) (by decide) S;have emp:∀{env:bK} (S:Store),bY (Zb (bY (Zf)) (Zb (bY (Zf)) (Zf))) env S= .ok (.tup [.tup [],.tup []]) S:=λS=>gP (Zt (gP rfl rfl) (Zt (gP rfl rfl) rfl)) rfl;refine Rt.skip (M':=S5) ((n6 (Zh (dJ (emp S5) (e0 S5)) rfl (Zq1.trans rfl))).trans (dM (a:=.bl true) (qY (dJ (emp S5) (n0 S5)) (gP rfl rfl) (same [] S5 (by decide))) rfl)) ?_;have hrl:(rs.map Rw.iM).length<=10000:=by rw[Yu];exact lA 1 0x27104b001a83b001 T1 rl
 have tr:oR oG P (tO tk rs):=ZhX t6 sh hrl;have hRl:(tO tk rs).length<=10000:=by
  have:(rK tk).length<=1:=by unfold rK;split <;>simp
  rw[Yf,Yu];exact lB 2 0x27104b10c01a83b101a001 T1 this rl
 have eT:(tO tk rs).map (λws=>glue [32] (ws.map b_))=RW.map (glue [32]):=by show _=(zQ tk rs).map (glue [32]);rw[←d_w,jH];rfl
 have hW:∀ws∈tO tk rs,ws.length<=1000/\∀w∈ws,Ob w/\mD w:=λws hw=>by
  rcases fj.mp hw with e|e
  .unfold rK at e;split at e
   .cases e
   .rw[Yy.mp e];refine⟨by simp;exact lA 1 0x3e73b0061b001 T1 t6,λw hw=>?_⟩;obtain⟨x,hx,rfl⟩:=dZ.mp hw;refine⟨⟨λ_=>rfl,?_⟩,.str x⟩;rcases Yo.mp hx with q|q
    .rw[q];decide
    .have:=(tok x q).le;show x.length<=61;exact lA 1 67254901387265 T1 this
  .obtain⟨r,hr,rfl⟩:=dZ.mp e;have H:=nG r hr;refine⟨?_,λw hw=>⟨Zun H w hw,?_⟩⟩
   .have:=Wc H;rw[←WN,Yu]at this;exact lA 1 0x3e83b003c2b001 T1 this
   .rcases Yo.mp hw with q|q
    .rw[q];exact .str _
    .rcases fj.mp q with q|q
     .obtain⟨x,_,rfl⟩:=dZ.mp q;exact .str x
     .cases HY H.ok.fit w q with
      |int i _=>exact .int i|eG x _=>exact .str x|op x _=>exact .str x
 let X:=glue [10] (RW.map (glue [32]))
 have shown:∀S:Store,wX [P] S= .ok (.str X) S:=λS=>by have:=ZmQ tr (λws h=>⟨(hW ws h).1,λw hw=>((hW ws h).2 w hw).1⟩) hRl (by rw[eT];exact Yi IW (by decide)) S;rw[eT]at this;exact this
 refine Rt.step (Zq (d:=.str X) (M':=S5) (dJ rfl (shown S5))) ?_;have g5':S5[Em]?=Ya (.lst ((RW.map (glue [32])).map D.str)):=by rw[g5,jH];rfl
 have jn:∀{a:bK},Za 4 a S5= .ok (.ref Em) S5->aG fM uJ (eC (.str [10])) (Zb (Za 4) (Zf)) a S5= .ok (.str X) S5:=λh=>u0 rfl h (Nm g5' (Yi (show lG [10] (RW.map (glue [32]))<=3600 from IW) (by decide)));refine Rt.skip (M':=S5) ((n6 (M1:=S5) (dM (op:=jr) (a:=.bl true) (M1:=S5) (dM (op:=jt .str) (a:=.str X) (M1:=S5) rfl rfl) rfl)).trans (Zh rfl (jn rfl) (Zq1.trans (by rw[decide_eq_true rfl];exact rfl)))) ?_
 let F:=RW.flatten.foldl (gK names) []
 have hwl:RW.flatten.length<=3600:=Yi (ZhQ RW) IW;have hdl:(tO tk rs).flatten.length=RW.flatten.length:=by have:=congrArg ud (ZvA tk rs);rw[Yu]at this;exact this
 have nmE:∀S:Store,zr [P] S= .ok (.tup (F.map D.str)) S:=λS=>by have:=ZiH tr (λws h w hw=>((hW ws h).2 w hw).2) (lC 3 0x27104b02c061b201e103b1011021 T1 hdl hwl t6) S;rw[ZsK WT nG WW Og]at this;exact this
 have ndE:Hy [.ref Em,.ref nr] S5= .ok (.tup (F.map D.str)) S5:=named_eq g5 gn5 XR (lA 1 0x27104b00e103b001 T1 hwl);have fl:F.length<=1000:=by have q:=WR (names:=names) RW.flatten [] Jt (λ_ h=>nomatch h);have:=ZrJ F names q.1 q.2;exact lB 2 0x3e83b00c1b1211001 T1 this n12
 refine Rt.skip (M':=S5) (dM (a:=.bl true) (qY (dJ rfl (nmE S5)) (qY rfl rfl ndE) (same F S5 fl)) rfl) ?_;have pl:=run_plain nG hrun;have xq:∀n,cj n ds=true:=λn=>WK λx hx=>ZiD n 26 x (pl.2 x hx);have eRS:(RW.map Ya).map j4=RW.map (glue [32]):=by rw[jH];rfl
 have fm:(RW.map Ya).filterMap id=RW:=by rw[Yka];exact List.filterMap_some
 have read:∀S:Store,Hw [.str X] S= .ok P S:=λS=>by
  by_cases h0:RW=[]
  .have eX:X=glue [10] ([Ym].map j4):=by show glue [10] (RW.map (glue [32]))=_;rw[h0];rfl
   rw[eX];exact ZpG (Ls:=[Ym]) (tk:=tk) (rs:=rs) (by simp) (λws h=>by simp at h) (by decide) (by decide) (by show[]=RW;exact h0.symm) nG t6 WW tok hrun xq
  .have:=ZpG (M:=S) (Ls:=RW.map Ya) (tk:=tk) (rs:=rs) (ds:=ds) (λz=>h0 (Af.mp z)) (λws h=>by
    obtain⟨vs,hv,e⟩:=dZ.mp h;cases e;exact XR _ hv) (by
    have:RW.length<=426:=by show((if tk=[]then[]else[e_::tk])++rs.map Rw.words).length<=426;rw[Yf,Yu];split <;>simp <;>omega
    rw[Yu];exact lA 1 0x13884b001aa3b001 T1 this) (by rw[eRS];exact Yi (Zpn 10 _) (lA 1 0xdbba05b00e103b001 T1 IW)) fm nG t6 WW tok hrun xq
   rw[eRS]at this;exact this
 have AbR:gW 30 P=true:=by
  refine Wz (n:=28) (by decide) (vm (n:=27) (show 2<=1000 by decide) λx hx=>?_);rcases Yo.mp hx with e|e
  .rw[e];exact vm (n:=26) (by rw[Yu];exact lA 1 0x3e83b0061b001 T1 t6) λy hy=>by obtain⟨z,_,rfl⟩:=dZ.mp hy;exact WD _ _
  .rw[Yy.mp e];exact vm (n:=26) pl.1 pl.2
 have Abr:∀S:Store,zu [P,P] S= .ok (.bl true) S:=λS=>Zm3 30 _ S AbR;exact⟨S5,di ((h_ (M1:=S5) (qY (dJ rfl (read S5)) rfl (Abr S5))).trans (Zh (dJ rfl (shown S5)) rfl (N_ rfl)))⟩
end _Law
set_option maxHeartbeats 400000
namespace _Law
open PySem PySem.Spec PyProof.Rows _L2 _L3
variable{P:List Yh->Prop}
theorem uZ(h:P []):∀us:List Yh,us.length=0->P us:=λus e=>(Jj e)▸h
theorem uS{n:Nat}(h:∀a us,us.length=n->P (a::us))(us:List Yh)(e:us.length=n+1):P us:=by
 cases us with
 |nil=>exact absurd e (Nat.succ_ne_zero n).symm|cons a us=>exact h a us (RL e)
variable{xa:aj}
theorem jC(h:∀a,P [a]):∀us:List Yh,us.length=[xa].length->P us:=uS λa=>uZ (h a)
theorem xG{xb:aj}(h:∀a b,P [a,b]):∀us:List Yh,us.length=[xa,xb].length->P us:=uS λa=>uS λb=>uZ (h a b)
theorem ub3{xb xc:aj}(h:∀a b c,P [a,b,c]):∀us:List Yh,us.length=[xa,xb,xc].length->P us:=uS λa=>uS λb=>uS λc=>uZ (h a b c)
theorem W2{xb xc xd:aj}(h:∀a b c d,P [a,b,c,d]):∀us:List Yh,us.length=[xa,xb,xc,xd].length->P us:=uS λa=>uS λb=>uS λc=>uS λd=>uZ (h a b c d)
theorem ZvK{l:PySem.W.OpenLaw}{w:bJ}{K:W.Frag}{h:aR}{mg:aj->Option Yh}{fa f0 f1 f2 f3 f4 f5 f6 f7 f8 f9 W3 f11 W4 W5 W6 W7 W8 W9 W_ Xa Xb Xc Xd Xe Xf Xg Xh Xi Xj Xk Xl Xm f32:Y4}(X:K.In h)(G:h.Ns Yx mg)(hfa:mg "law" =Ya (.ref fa)){od0 an0 od1 an1 od2 an2 od3 an3 od4 an4 od5 an5 od6 an6 od7 an7 od8 an8 od9 an9 AbS AbT AbU AbV AbW AbX AbY AbZ Ab0 Ab1 Ab2 Ab3 Ab4 Ab5 Ab6 Ab7 Ab8 Ab9 Aca Acb Acd Ace Acf Acg Ach Aci Acj Ack Acl Acm Acn Aco Acp Acq Acr Acs Acu Acv Acw Acx Acy Acz AcA AcB AcC YB:Option Y4}{sl0 sl1 sl2 sl3 sl4 sl5 sl6 sl7 sl8 sl9 AcD AcE AcF AcG AcH AcI AcJ AcK AcL AcM AcN AcO AcP AcQ AcR AcS AcT AcU AcV AcW AcX AcY AcZ:Array (Option Yh)}{oc0 kV0 dc0 pm0 cd0 ct0 oc1 kV1 dc1 pm1 cd1 ct1 oc2 kV2 dc2 pm2 cd2 ct2 oc3 kV3 dc3 pm3 cd3 ct3 oc4 kV4 dc4 pm4 cd4 ct4 oc5 kV5 dc5 pm5 cd5 ct5 oc6 kV6 dc6 pm6 cd6 ct6 oc7 kV7 dc7 pm7 cd7 ct7 oc8 kV8 dc8 pm8 cd8 ct8 oc9 kV9 dc9 pm9 cd9 ct9 Ac0 Ac1 Ac2 Ac3 YC Ac4 Ac5 Ac6 Ac7 Ac8 YD Ac9 Ada Adb Adc Ade YF Adf Adg Adh Adi Adj YG Adk Adl Adm Adn Ado YH Adp Adq Ads Adt Adu YJ Adv Adw Adx Ady Adz YK AdA AdB AdC AdD AdE YL AdF AdG AdH AdI AdJ YM AdK AdL AdM AdN AdO YQ AdP AdQ AdR AdS AdT YS AdU AdV AdW AdX AdY YT AdZ Ad0 Ad1 Ad2 Ad3 YW Ad4 Ad5 Ad6 Ad7 Ad8 YX Ad9 Aea Aeb Aec Aed YZ Aee Aef Aeg Aeh Aei Y_ Aej Aek Ael Aem Aen ZC Aeo Aep Aeq Aer Aes ZD Aet Aeu Aev Aew Aex ZF Aey Aez AeA AeB AeC ZG AeD AeE AeF AeG AeH ZJ AeI AeJ AeK AeL AeM ZK AeN AeO ZL ZM ZP PL ZQ:Yh}{AaZ Aa0 Aak Aam Aag Aah Aan Aao:gw}{dm:Y4}{Xz:Y4}{XC:Y4}{XJ:Y4}{XD:Y4}(Xq:bI K Yx "Block" =Ya (Ya (.ref dm)))(AaN:Jg K dm Str.empty=true)(AaO:Jf K dm=true)(AaP:Qa K dm=true)(AaQ:nJ K (.ref dm) "__setattr__" =Ya (Ya (.builtin "object.__setattr__")))(AaR:Jh K dm=true)(AaS:dU K (.ref dm)=true)(Aai:nJ K (.ref dm) "head" =Ya Ym)(Aaf:nJ K (.ref dm) "lists" =Ya Ym)(a0:bI K Yx "is_number" =Ya (Ya (.ref f0)))(l0:K.lookup f0=Ya ⟨oc0,od0,.func (dW "is_number" "is_number" (cT CQ) (cH CQ) (Zk CQ) .none kV0 dc0 pm0 an0 cd0 ct0),sl0⟩)(c0:dY K cd0 "is_number" =true)(k0:dU K (.ref f0)=true)(a1:bI K Yx "shown_row" =Ya (Ya (.ref f1)))(l1:K.lookup f1=Ya ⟨oc1,od1,.func (dW "shown_row" "shown_row" (cT CV) (cH CV) (Zk CV) .none kV1 dc1 pm1 an1 cd1 ct1),sl1⟩)(c1:dY K cd1 "shown_row" =true)(k1:dU K (.ref f1)=true)(a2:bI K Yx "sums_in" =Ya (Ya (.ref f2)))(l2:K.lookup f2=Ya ⟨oc2,od2,.func (dW "sums_in" "sums_in" (cT CZ) (cH CZ) (Zk CZ) .none kV2 dc2 pm2 an2 cd2 ct2),sl2⟩)(c2:dY K cd2 "sums_in" =true)(k2:dU K (.ref f2)=true)(a3:bI K Yx "needs_sums" =Ya (Ya (.ref f3)))(l3:K.lookup f3=Ya ⟨oc3,od3,.func (dW "needs_sums" "needs_sums" (cT C_) (cH C_) (Zk C_) .none kV3 dc3 pm3 an3 cd3 ct3),sl3⟩)(c3:dY K cd3 "needs_sums" =true)(k3:dU K (.ref f3)=true)(a4:bI K Yx "parts_of" =Ya (Ya (.ref f4)))(l4:K.lookup f4=Ya ⟨oc4,od4,.func (dW "parts_of" "parts_of" (cT Dc) (cH Dc) (Zk Dc) .none kV4 dc4 pm4 an4 cd4 ct4),sl4⟩)(c4:dY K cd4 "parts_of" =true)(k4:dU K (.ref f4)=true)(a5:bI K Yx "depth" =Ya (Ya (.ref f5)))(l5:K.lookup f5=Ya ⟨oc5,od5,.func (dW "depth" "depth" (cT Dd) (cH Dd) (Zk Dd) .none kV5 dc5 pm5 an5 cd5 ct5),sl5⟩)(c5:dY K cd5 "depth" =true)(k5:dU K (.ref f5)=true)(a6:bI K Yx "is_name" =Ya (Ya (.ref f6)))(l6:K.lookup f6=Ya ⟨oc6,od6,.func (dW "is_name" "is_name" (cT Dh) (cH Dh) (Zk Dh) .none kV6 dc6 pm6 an6 cd6 ct6),sl6⟩)(c6:dY K cd6 "is_name" =true)(k6:dU K (.ref f6)=true)(a7:bI K Yx "read_taken" =Ya (Ya (.ref f7)))(l7:K.lookup f7=Ya ⟨oc7,od7,.func (dW "read_taken" "read_taken" (cT Dg) (cH Dg) (Zk Dg) .none kV7 dc7 pm7 an7 cd7 ct7),sl7⟩)(c7:dY K cd7 "read_taken" =true)(k7:dU K (.ref f7)=true)(a8:nJ K (.ref dm) "__init__" =Ya (Ya (.ref f8)))(i8:Ji K (.ref f8)=true)(l8:K.lookup f8=Ya ⟨oc8,od8,.func (dW "__init__" "Block.__init__" (cT DX) (cH DX) (Zk DX) .none kV8 dc8 pm8 an8 cd8 ct8),sl8⟩)(c8:dY K cd8 "Block.__init__" =true)(k8:dU K (.ref f8)=true)(a9:bI K Yx "read_sums" =Ya (Ya (.ref f9)))(l9:K.lookup f9=Ya ⟨oc9,od9,.func (dW "read_sums" "read_sums" (cT Dk) (cH Dk) (Zk Dk) .none kV9 dc9 pm9 an9 cd9 ct9),sl9⟩)(c9:dY K cd9 "read_sums" =true)(k9:dU K (.ref f9)=true)(a10:bI K Yx "read_deed" =Ya (Ya (.ref W3)))(l10:K.lookup W3=Ya ⟨Ac0,AbS,.func (dW "read_deed" "read_deed" (cT Dj) (cH Dj) (Zk Dj) .none Ac1 Ac2 Ac3 AbT YC Ac4),AcD⟩)(c10:dY K YC "read_deed" =true)(k10:dU K (.ref W3)=true)(a11:bI K Yx "can_stand" =Ya (Ya (.ref f11)))(l11:K.lookup f11=Ya ⟨Ac5,AbU,.func (dW "can_stand" "can_stand" (cT Dl) (cH Dl) (Zk Dl) .none Ac6 Ac7 Ac8 AbV YD Ac9),AcE⟩)(c11:dY K YD "can_stand" =true)(k11:dU K (.ref f11)=true)(a12:bI K Yx "place_deed" =Ya (Ya (.ref W4)))(l12:K.lookup W4=Ya ⟨Ada,AbW,.func (dW "place_deed" "place_deed" (cT Dm) (cH Dm) (Zk Dm) .none Adb Adc Ade AbX YF Adf),AcF⟩)(c12:dY K YF "place_deed" =true)(k12:dU K (.ref W4)=true)(a13:bI K Yx "read_deeds" =Ya (Ya (.ref W5)))(l13:K.lookup W5=Ya ⟨Adg,AbY,.func (dW "read_deeds" "read_deeds" (cT Di) (cH Di) (Zk Di) .none Adh Adi Adj AbZ YG Adk),AcG⟩)(c13:dY K YG "read_deeds" =true)(k13:dU K (.ref W5)=true)(a14:bI K Yx "read" =Ya (Ya (.ref W6)))(l14:K.lookup W6=Ya ⟨Adl,Ab0,.func (dW "read" "read" (cT Df) (cH Df) (Zk Df) .none Adm Adn Ado Ab1 YH Adp),AcH⟩)(c14:dY K YH "read" =true)(k14:dU K (.ref W6)=true)(a15:bI K Yx "text_rows_of_deed" =Ya (Ya (.ref W7)))(l15:K.lookup W7=Ya ⟨Adq,Ab2,.func (dW "text_rows_of_deed" "text_rows_of_deed" (cT Ds) (cH Ds) (Zk Ds) .none Ads Adt Adu Ab3 YJ Adv),AcI⟩)(c15:dY K YJ "text_rows_of_deed" =true)(k15:dU K (.ref W7)=true)(a16:bI K Yx "text_rows_of_deeds" =Ya (Ya (.ref W8)))(l16:K.lookup W8=Ya ⟨Adw,Ab4,.func (dW "text_rows_of_deeds" "text_rows_of_deeds" (cT Dq) (cH Dq) (Zk Dq) .none Adx Ady Adz Ab5 YK AdA),AcJ⟩)(c16:dY K YK "text_rows_of_deeds" =true)(k16:dU K (.ref W8)=true)(a17:bI K Yx "text_rows" =Ya (Ya (.ref W9)))(l17:K.lookup W9=Ya ⟨AdB,Ab6,.func (dW "text_rows" "text_rows" (cT Dp) (cH Dp) (Zk Dp) .none AdC AdD AdE Ab7 YL AdF),AcK⟩)(c17:dY K YL "text_rows" =true)(k17:dU K (.ref W9)=true)(a18:bI K Yx "shown" =Ya (Ya (.ref W_)))(l18:K.lookup W_=Ya ⟨AdG,Ab8,.func (dW "shown" "shown" (cT Dn) (cH Dn) (Zk Dn) .none AdH AdI AdJ Ab9 YM AdK),AcL⟩)(c18:dY K YM "shown" =true)(k18:dU K (.ref W_)=true)(a19:bI K Yx "names_of" =Ya (Ya (.ref Xa)))(l19:K.lookup Xa=Ya ⟨AdL,Aca,.func (dW "names_of" "names_of" (cT Dt) (cH Dt) (Zk Dt) .none AdM AdN AdO Acb YQ AdP),AcM⟩)(c19:dY K YQ "names_of" =true)(k19:dU K (.ref Xa)=true)(a20:bI K Yx "_law_next" =Ya (Ya (.ref Xb)))(l20:K.lookup Xb=Ya ⟨AdQ,Acd,.func (dW "_law_next" "_law_next" (cT Du) (cH Du) (Zk Du) .none AdR AdS AdT Ace YS AdU),AcN⟩)(c20:dY K YS "_law_next" =true)(k20:dU K (.ref Xb)=true)(a21:bI K Yx "_law_same" =Ya (Ya (.ref Xc)))(l21:K.lookup Xc=Ya ⟨AdV,Acf,.func (dW "_law_same" "_law_same" (cT Dv) (cH Dv) (Zk Dv) .none AdW AdX AdY Acg YT AdZ),AcO⟩)(c21:dY K YT "_law_same" =true)(k21:dU K (.ref Xc)=true)(a22:bI K Yx "_law_names" =Ya (Ya (.ref Xd)))(l22:K.lookup Xd=Ya ⟨Ad0,Ach,.func (dW "_law_names" "_law_names" (cT Dw) (cH Dw) (Zk Dw) .none Ad1 Ad2 Ad3 Aci YW Ad4),AcP⟩)(c22:dY K YW "_law_names" =true)(k22:dU K (.ref Xd)=true)(a23:bI K Yx "_law_value" =Ya (Ya (.ref Xe)))(l23:K.lookup Xe=Ya ⟨Ad5,Acj,.func (dW "_law_value" "_law_value" (cT Dy) (cH Dy) (Zk Dy) .none Ad6 Ad7 Ad8 Ack YX Ad9),AcQ⟩)(c23:dY K YX "_law_value" =true)(k23:dU K (.ref Xe)=true)(a24:bI K Yx "_law_sum" =Ya (Ya (.ref Xf)))(l24:K.lookup Xf=Ya ⟨Aea,Acl,.func (dW "_law_sum" "_law_sum" (cT Dz) (cH Dz) (Zk Dz) .none Aeb Aec Aed Acm YZ Aee),AcR⟩)(c24:dY K YZ "_law_sum" =true)(k24:dU K (.ref Xf)=true)(a25:bI K Yx "_law_deed" =Ya (Ya (.ref Xg)))(l25:K.lookup Xg=Ya ⟨Aef,Acn,.func (dW "_law_deed" "_law_deed" (cT DG) (cH DG) (Zk DG) .none Aeg Aeh Aei Aco Y_ Aej),AcS⟩)(c25:dY K Y_ "_law_deed" =true)(k25:dU K (.ref Xg)=true)(a26:bI K Yx "_law_words" =Ya (Ya (.ref Xh)))(l26:K.lookup Xh=Ya ⟨Aek,Acp,.func (dW "_law_words" "_law_words" (cT DK) (cH DK) (Zk DK) .none Ael Aem Aen Acq ZC Aeo),AcT⟩)(bU:dY K ZC "_law_words" =true)(k26:dU K (.ref Xh)=true)(a27:bI K Yx "_law_closed" =Ya (Ya (.ref Xi)))(l27:K.lookup Xi=Ya ⟨Aep,Acr,.func (dW "_law_closed" "_law_closed" (cT DN) (cH DN) (Zk DN) .none Aeq Aer Aes Acs ZD Aet),AcU⟩)(c27:dY K ZD "_law_closed" =true)(k27:dU K (.ref Xi)=true)(a28:bI K Yx "_law_row" =Ya (Ya (.ref Xj)))(l28:K.lookup Xj=Ya ⟨Aeu,Acu,.func (dW "_law_row" "_law_row" (cT DP) (cH DP) (Zk DP) .none Aev Aew Aex Acv ZF Aey),AcV⟩)(c28:dY K ZF "_law_row" =true)(k28:dU K (.ref Xj)=true)(a29:bI K Yx "_law_program" =Ya (Ya (.ref Xk)))(l29:K.lookup Xk=Ya ⟨Aez,Acw,.func (dW "_law_program" "_law_program" (cT DQ) (cH DQ) (Zk DQ) .none AeA AeB AeC Acx ZG AeD),AcW⟩)(c29:dY K ZG "_law_program" =true)(k29:dU K (.ref Xk)=true)(a30:bI K Yx "_law_taken" =Ya (Ya (.ref Xl)))(l30:K.lookup Xl=Ya ⟨AeE,Acy,.func (dW "_law_taken" "_law_taken" (cT DR) (cH DR) (Zk DR) .none AeF AeG AeH Acz ZJ AeI),AcX⟩)(c30:dY K ZJ "_law_taken" =true)(k30:dU K (.ref Xl)=true)(a31:bI K Yx "_law_named" =Ya (Ya (.ref Xm)))(l31:K.lookup Xm=Ya ⟨AeJ,AcA,.func (dW "_law_named" "_law_named" (cT DW) (cH DW) (Zk DW) .none AeK AeL AeM AcB ZK AeN),AcY⟩)(c31:dY K ZK "_law_named" =true)(k31:dU K (.ref Xm)=true)(a32:bI K Yx "law" =Ya (Ya (.ref f32)))(l32:K.lookup f32=Ya ⟨AeO,AcC,.func (dW "law" "law" (cT uX) (cH uX) (Zk uX) .none ZL ZM ZP YB PL ZQ),AcZ⟩)(c32:dY K PL "law" =true)(k32:dU K (.ref f32)=true)(Abs:bI K Yx "all" =Ya Ym)(Abj:bI K Yx "bool" =Ya Ym)(AaA:bI K Yx "enumerate" =Ya Ym)(Abt:bI K Yx "int" =Ya Ym)(Aap:bI K Yx "isinstance" =Ya Ym)(Abu:bI K Yx "len" =Ya Ym)(Abk:bI K Yx "list" =Ya Ym)(Abv:bI K Yx "max" =Ya Ym)(Aa6:bI K Yx "range" =Ya Ym)(Abw:bI K Yx "set" =Ya Ym)(Abx:bI K Yx "str" =Ya Ym)(Aa7:bI K Yx "tuple" =Ya Ym)(vz:bI K Yx "FIGURES" =Ya (Ya (.str "0123456789" AaZ)))(xM:bI K Yx "LETTERS" =Ya (Ya (.str "abcdefghijklmnopqrstuvwxyz" Aa0)))(Aa8:bI K Yx "LISTS" =Ya (Ya (.ref Xz)))(AaB:nC K Xz oA)(xH:bI K Yx "MOST_BLOCKS" =Ya (Ya (.int 12 Aak)))(xJ:bI K Yx "MOST_DEPTH" =Ya (Ya (.int 6 Aam)))(rN:bI K Yx "MOST_FIGURES" =Ya (Ya (.int 60 Aag)))(rO:bI K Yx "MOST_LETTERS" =Ya (Ya (.int 8 Aah)))(vp:bI K Yx "MOST_TAKEN" =Ya (Ya (.int 6 Aan)))(vy:bI K Yx "MOST_WORDS" =Ya (Ya (.int 60 Aao)))(Aa9:bI K Yx "PARTS" =Ya (Ya (.ref XC)))(AaC:nC K XC pB)(Abl:bI K Yx "SUMS" =Ya (Ya (.ref XJ)))(AaT:nC K XJ jY)(qp:bI K Yx "WORDS" =Ya (Ya (.ref XD)))(AaD:Cv K (Zx.map λy=>(⟨y.toArray⟩:aj)) (.ref XD)=true):
  ∃fd:lU,(∀(s:Yl) (v:Yh),Aq s fd ⟨[v],[]⟩ [("script",v)])/\∀base:aR,K.In base->base.Ns Yx mg->jO l.prog w K mg base mU 69 fa fd ["script"] (uR K 1 Zpb):=by
 have e:=hfa.symm.trans (nO X G a32);cases e;have T:Txt K mg:=⟨trivial,pK X G Abs,pK X G Abj,pK X G AaA,pK X G Abt,pK X G Aap,pK X G Abu,pK X G Abk,pK X G Abv,pK X G Aa6,pK X G Abw,pK X G Abx,pK X G Aa7,⟨_,nO X G vz⟩,⟨_,nO X G xM⟩,⟨_,nO X G Aa8,AaB⟩,⟨_,nO X G xH⟩,⟨_,nO X G xJ⟩,⟨_,nO X G rN⟩,⟨_,nO X G rO⟩,⟨_,nO X G vp⟩,⟨_,nO X G vy⟩,⟨_,nO X G Aa9,AaC⟩,⟨_,nO X G Abl,AaT⟩,⟨_,nO X G qp,AaD⟩⟩;have dO:Hz K mg dm:=⟨⟨by unfold _L3.ClsAt;rw[show(⟨([66,108,111,99,107]:List Nat).toArray⟩:aj)= "Block" by decide +kernel];exact Xq,⟨AaN,AaO,AaP,AaQ⟩,by decide⟩,nO X G Xq,by rw[show nm [104,101,97,100]= "head" by decide +kernel];exact Aai,by rw[show nm [108,105,115,116,115]= "lists" by decide +kernel];exact Aaf⟩;have AaE:bC K mg "is_number" CQ ["word"]:=fK X G a0 l0 c0 k0 (Binds.all (jC λ_=>rfl));have AaF:bC K mg "shown_row" CV ["row"]:=fK X G a1 l1 c1 k1 (Binds.all (jC λ_=>rfl));have Aa1:bC K mg "sums_in" CZ ["words"]:=fK X G a2 l2 c2 k2 (Binds.all (jC λ_=>rfl));have Aaq:bC K mg "needs_sums" C_ ["word"]:=fK X G a3 l3 c3 k3 (Binds.all (jC λ_=>rfl));have AaU:bC K mg "parts_of" Dc ["words"]:=fK X G a4 l4 c4 k4 (Binds.all (jC λ_=>rfl));have Aba:bC K mg "depth" Dd ["words"]:=fK X G a5 l5 c5 k5 (Binds.all (jC λ_=>rfl));have Aa2:bC K mg "is_name" Dh ["word"]:=fK X G a6 l6 c6 k6 (Binds.all (jC λ_=>rfl));have Aar:bC K mg "read_taken" Dg ["row"]:=fK X G a7 l7 c7 k7 (Binds.all (jC λ_=>rfl));have Aae:Mr K dm "Block.__init__" DX ["self","head"]:=Zto AaR AaS a8 i8 l8 c8 k8 (Binds.all (xG λ_ _=>rfl));have AaG:bC K mg "read_sums" Dk ["words"]:=fK X G a9 l9 c9 k9 (Binds.all (jC λ_=>rfl));have AaH:bC K mg "read_deed" Dj ["words"]:=fK X G a10 l10 c10 k10 (Binds.all (jC λ_=>rfl));have AaI:bC K mg "can_stand" Dl ["blocks","word"]:=fK X G a11 l11 c11 k11 (Binds.all (xG λ_ _=>rfl));have Aas:bC K mg "place_deed" Dm ["blocks","deed"]:=fK X G a12 l12 c12 k12 (Binds.all (xG λ_ _=>rfl));have Aat:bC K mg "read_deeds" Di ["rows","behind"]:=fK X G a13 l13 c13 k13 (Binds.all (xG λ_ _=>rfl));have Abm:bC K mg "read" Df ["text"]:=fK X G a14 l14 c14 k14 (Binds.all (jC λ_=>rfl));have Aac:bC K mg "text_rows_of_deed" Ds ["deed"]:=fK X G a15 l15 c15 k15 (Binds.all (jC λ_=>rfl));have Aab:bC K mg "text_rows_of_deeds" Dq ["deeds"]:=fK X G a16 l16 c16 k16 (Binds.all (jC λ_=>rfl));have AaJ:bC K mg "text_rows" Dp ["program"]:=fK X G a17 l17 c17 k17 (Binds.all (jC λ_=>rfl))
 have Abb:bC K mg "shown" Dn ["program"]:=fK X G a18 l18 c18 k18 (Binds.all (jC λ_=>rfl));have AaV:bC K mg "names_of" Dt ["program"]:=fK X G a19 l19 c19 k19 (Binds.all (jC λ_=>rfl));have AaK:bC K mg "_law_next" Du ["deck"]:=fK X G a20 l20 c20 k20 (Binds.all (jC λ_=>rfl));have AaL:bC K mg "_law_same" Dv ["found","due"]:=fK X G a21 l21 c21 k21 (Binds.all (xG λ_ _=>rfl));have Aau:bC K mg "_law_names" Dw ["deck"]:=fK X G a22 l22 c22 k22 (Binds.all (jC λ_=>rfl));have Aav:bC K mg "_law_value" Dy ["cell"]:=fK X G a23 l23 c23 k23 (Binds.all (jC λ_=>rfl));have AaW:bC K mg "_law_sum" Dz ["deck","names","deep","most"]:=fK X G a24 l24 c24 k24 (Binds.all (W2 λ_ _ _ _=>rfl));have AaM:bC K mg "_law_deed" DG ["deck","names","cell"]:=fK X G a25 l25 c25 k25 (Binds.all (ub3 λ_ _ _=>rfl));have Aaw:bC K mg "_law_words" DK ["deed"]:=fK X G a26 l26 bU k26 (Binds.all (jC λ_=>rfl));have Aal:bC K mg "_law_closed" DN ["stack","deeds"]:=fK X G a27 l27 c27 k27 (Binds.all (xG λ_ _=>rfl));have AaX:bC K mg "_law_row" DP ["deck","names","stack","deeds"]:=fK X G a28 l28 c28 k28 (Binds.all (W2 λ_ _ _ _=>rfl));have Aaj:bC K mg "_law_program" DQ ["deck","names","many","most"]:=fK X G a29 l29 c29 k29 (Binds.all (W2 λ_ _ _ _=>rfl));have Aax:bC K mg "_law_taken" DR ["deck","names"]:=fK X G a30 l30 c30 k30 (Binds.all (xG λ_ _=>rfl));have Aay:bC K mg "_law_named" DW ["rows","names"]:=fK X G a31 l31 c31 k31 (Binds.all (xG λ_ _=>rfl));refine⟨dW "law" "law" (cT uX) (cH uX) (Zk uX) .none ZL ZM ZP YB PL ZQ,λs v=>.of_eq rfl,λbase _ _=>?_⟩;have Ip:=ZlH (P:=l.prog) (w:=w) (base:=base) AaE T;have O2:=Zlw (P:=l.prog) (w:=w) (base:=base) AaF T;have zV:=Zn3 (P:=l.prog) (w:=w) (base:=base) Aa1 T;have Om:=Zkk (P:=l.prog) (w:=w) (base:=base) Aaq T;have O5:=ZmV (P:=l.prog) (w:=w) (base:=base) AaU T zV;have O_:=Zrj (P:=l.prog) (w:=w) (base:=base) Aba T O5;have tQ:=ZnD (P:=l.prog) (w:=w) (base:=base) Aa2 T;have Oq:=Zku (P:=l.prog) (w:=w) (base:=base) Aar T tQ;have zR:=Zhs (P:=l.prog) (w:=w) (base:=base) dO Aae T;have OD:=Zlu (P:=l.prog) (w:=w) (base:=base) AaG T Ip zV Om O_ tQ;have OJ:=Zlb (P:=l.prog) (w:=w) (base:=base) AaH T tQ OD;have O1:=Zlx (P:=l.prog) (w:=w) (base:=base) AaI T dO;have Oo:=Zkq (P:=l.prog) (w:=w) (base:=base) Aas T dO zR;have Ot:=Zke (P:=l.prog) (w:=w) (base:=base) Aat T dO zR OJ O1 Oo;have Pg:=ZsT (P:=l.prog) (w:=w) (base:=base) Abm T Oq Ot
 have GG:=Zfk (P:=l.prog) (w:=w) (base:=base) Aab Aac T 28;obtain⟨Oj,AeP⟩:=GG;have zU:=ZlS (P:=l.prog) (w:=w) (base:=base) AaJ T Oj;have Er:=ZqK (P:=l.prog) (w:=w) (base:=base) Abb T O2 zU;have Ir:=Zmo (P:=l.prog) (w:=w) (base:=base) AaV T zU;have pH:=Zlg (P:=l.prog) (w:=w) (base:=base) AaK T;have Eo:=Zll (P:=l.prog) (w:=w) (base:=base) AaL T;have Ov:=Zkm (P:=l.prog) (w:=w) (base:=base) Aau T pH;have Ou:=Zks (P:=l.prog) (w:=w) (base:=base) Aav T;have xK:=Znm (P:=l.prog) (w:=w) (base:=base) AaW T pH Ou;have O4:=Zl1 (P:=l.prog) (w:=w) (base:=base) AaM T xK;have Io:=Zkd (P:=l.prog) (w:=w) (base:=base) Aaw T;have zT:=Zj3 (P:=l.prog) (w:=w) (base:=base) Aal T;have O6:=Zm2 (P:=l.prog) (w:=w) (base:=base) AaX T pH xK O4 Io zT;have Ol:=ZiW (P:=l.prog) (w:=w) (base:=base) Aaj T zT O6;have Ow:=Zkv (P:=l.prog) (w:=w) (base:=base) Aax T pH;have Ox:=Zkt (P:=l.prog) (w:=w) (base:=base) Aay T;exact Zvt (Zsl (st:=uX) l32 c32 k32) T Pg Er Ir Eo Ov Ol Ow Ox
end _Law
open PySem PySem.W PyProof.Rows
theorem PySem.W.Fast.te4576997947570927238 : True := trivial
set_option maxRecDepth 100000 in
set_option maxHeartbeats 0 in
theorem PySem.Challenge.cw_stepledger_k62_whole_shown_and_read_holds : PySem.Challenge.rw_stepledger_k62_whole_shown_and_read.Holds := by
 w_on;o_law;k_head;(case hw=>w_witness2)
 k_fill
 refine _L3.ZxM (l:=PySem.Challenge.rw_stepledger_k62_whole_shown_and_read) (k:=69) (F:=_Law.Zpb) rfl rfl ⟨rfl,by decide,by decide⟩ (λw h Y=>W.kIn_of Y) ?G _Law.law_holds
 case G=>
  intro w mg fa h KX G hmg;refine' _Law.ZvK KX G hmg ?_ ?_ ?_ ?_ ?_ ?_ ?_ ?_ ?_ ?_ ?_ ?_ ?_ ?_ ?_ ?_ ?_ ?_ ?_ ?_ ?_ ?_ ?_ ?_ ?_ ?_ ?_ ?_ ?_ ?_ ?_ ?_ ?_ ?_ ?_ ?_ ?_ ?_ ?_ ?_ ?_ ?_ ?_ ?_ ?_ ?_ ?_ ?_ ?_ ?_ ?_ ?_ ?_ ?_ ?_ ?_ ?_ ?_ ?_ ?_ ?_ ?_ ?_ ?_ ?_ ?_ ?_ ?_ ?_ ?_ ?_ ?_ ?_ ?_ ?_ ?_ ?_ ?_ ?_ ?_ ?_ ?_ ?_ ?_ ?_ ?_ ?_ ?_ ?_ ?_ ?_ ?_ ?_ ?_ ?_ ?_ ?_ ?_ ?_ ?_ ?_ ?_ ?_ ?_ ?_ ?_ ?_ ?_ ?_ ?_ ?_ ?_ ?_ ?_ ?_ ?_ ?_ ?_ ?_ ?_ ?_ ?_ ?_ ?_ ?_ ?_ ?_ ?_ ?_ ?_ ?_ ?_ ?_ ?_ ?_ ?_ ?_ ?_ ?_ ?_ ?_ ?_ ?_ ?_ ?_ ?_ ?_ ?_ ?_ ?_ ?_ ?_ ?_ ?_ ?_ ?_ ?_ ?_ ?_ ?_ ?_ ?_ ?_ ?_ ?_ ?_ ?_ ?_ ?_ ?_
  all_goals try k_is
  all_goals first|rfl|decide +kernel
